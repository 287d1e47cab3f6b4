import Derived.Test.YtbjplijhoibclaaCountC
import Derived.Test.YtbjplijhoibclaaStepW
import Derived.Deep.RegionLaw
import Derived.Deep.QuietTactic
import Derived.BigQuiet
namespace Go.Proofs.Ytbjplijhoibclaa
open Go.RowKit

/-- The code's machine, as it lies. -/
abbrev cmc (p : ByteArray) (period : Int) (s : StV) (kept : ByteArray) (last room : Int) (number : Nat) : Array Value := #[.string p, .int .i64 period, .int .i64 s.n, .int .i64 s.pc, .string s.regs, .string s.cells, .int .i64 s.clock, .int .i64 s.handler, .int .i64 s.back, .bool s.pending, .bool s.halted, .string kept, .int .i64 last, .int .i64 room, .int .i64 (number : Int)]
abbrev RM.ccells (m : RM) : Array Value := cmc m.p m.period m.s (RM.traceOf m) m.last m.room (m.all.length % 65536)

theorem box_rec {w : World} {b : Nat} {p : ByteArray} {period : Int} {s : StV} {k1 k2 : ByteArray} {l1 l2 r1 r2 : Int} {n1 n2 : Nat} (h : Box w b (cmc p period s k1 l1 r1 n1)) :
    Box ((((w.setCell ⟨b, 11, none⟩ (.string k2)).setCell ⟨b, 12, none⟩ (.int .i64 l2)).setCell ⟨b, 13, none⟩ (.int .i64 r2)).setCell ⟨b, 14, none⟩ (.int .i64 (n2 : Int))) b (cmc p period s k2 l2 r2 n2) := by
  have := (((h.set 11 (.string k2) (by simp)).set 12 (.int .i64 l2) (by simp)).set 13 (.int .i64 r2) (by simp)).set 14 (.int .i64 (n2 : Int)) (by simp)
  simpa using this
theorem keeps_rec {w w1 : World} {b : Nat} (h : Keeps w w1 [b]) (v0 v1 v2 v3 : Value) :
    Keeps w ((((w1.setCell ⟨b, 11, none⟩ v0).setCell ⟨b, 12, none⟩ v1).setCell ⟨b, 13, none⟩ v2).setCell ⟨b, 14, none⟩ v3) [b] := by
  repeat (refine Keeps.setCell ?_ (by simp) _)
  exact h

set_option maxRecDepth 100000 in
set_option maxHeartbeats 1000000 in
theorem save_code (b : Nat) (m : RM) (hm : m.Ok) (hh : m.from_ < m.all.length → RM.nthC m.all m.from_ = true) (w : World) (h : Box w b m.ccells) :
    Calls Try.prog 22 #[.pointer (some ⟨b, 0, none⟩)] w fun e w' => e = .returned (.tuple #[]) ∧ Box w' b (RM.save m).ccells ∧ Keeps w w' [b] := by
  have HS := hide (withState_code m hm hh)
  have HC : Hid ((RM.save m).ccells = cmc m.p m.period m.s (RM.traceOf (RM.save m)) (RM.save m).last (RM.save m).room ((RM.save m).all.length % 65536)) := hide (by
    obtain ⟨e1, e2, e3⟩ := RM.save_p m
    unfold RM.ccells
    rw [e1, e2, e3])
  rw [unhide HC]
  unfold RM.rcd at HS
  unfold RM.ccells at h
  generalize RM.traceOf (RM.save m) = t2 at *
  generalize (RM.save m).room = r2 at *
  generalize (RM.save m).last = l2 at *
  generalize (RM.save m).all.length % 65536 = n2 at *
  generalize RM.traceOf m = t1 at *
  generalize m.room = r1 at *
  generalize m.last = l1 at *
  generalize m.all.length % 65536 = n1 at *
  generalize m.s = s at *
  generalize m.p = p at *
  generalize m.period = pe at *
  clear hm hh HC
  obtain ⟨n, pc, regs, cells, clock, handler, back, pending, halted⟩ := s
  have B0 := hide h
  obtain ⟨c0, f0, g0⟩ := h
  clear g0
  go_enter Try.func22, Try.ntmps22
  go_region_law (rw [if_pos (by simp [Region.wanted])]; go_wp2_with (go_at_call 39; refine (unhide HS _).mono ?_; rintro e w1 ⟨rfl, hb⟩; have L1 := hide (bel_undrew hb); clear hb; have B1 := hide ((unhide B0).next (unhide L1)); obtain ⟨c1, f1, g1⟩ := unhide B1; clear g1))
  all_goals
    go_wp2
    go_end0
    exact ⟨rfl, box_rec (unhide B1), keeps_rec (keeps_of (unhide L1) _) _ _ _ _⟩
set_option maxRecDepth 100000 in
set_option maxHeartbeats 400000 in
theorem state_code (b : Nat) (m : RM) (w : World) (h : Box w b m.ccells) :
    Calls Try.prog 19 #[.pointer (some ⟨b, 0, none⟩)] w fun e w' => e = .returned m.s.val ∧ Below w.heap.size w w' := by
  unfold RM.ccells at h
  generalize RM.traceOf m = t1 at *
  generalize m.room = r1 at *
  generalize m.last = l1 at *
  generalize m.all.length % 65536 = n1 at *
  generalize m.s = s at *
  generalize m.p = p at *
  generalize m.period = pe at *
  obtain ⟨n, pc, regs, cells, clock, handler, back, pending, halted⟩ := s
  obtain ⟨c0, f0, g0⟩ := h
  have nb : ¬ b = w.heap.size := by omega
  have nb2 : ¬ w.heap.size = b := by omega
  go_enter Try.func19, Try.ntmps19
  go_wp2
  refine bodyPost_ret (v := StV.val ⟨n, pc, regs, cells, clock, handler, back, pending, halted⟩) (by simp [results, Try.results19, go_sem]) rfl ⟨rfl, ?_⟩
  first | exact (Below.refl _ _).alloc (Nat.le_refl _) _ | (repeat (refine Below.setCell ?_ (by simp) _); exact (Below.refl _ _).alloc (Nat.le_refl _) _)

set_option maxRecDepth 100000 in
set_option maxHeartbeats 400000 in
theorem trace_code (b : Nat) (m : RM) (w : World) (h : Box w b m.ccells) :
    Calls Try.prog 59 #[.pointer (some ⟨b, 0, none⟩)] w fun e w' => e = .returned (.string (RM.traceOf m)) ∧ w' = w := by
  unfold RM.ccells at h
  generalize RM.traceOf m = t1 at *
  generalize m.room = r1 at *
  generalize m.last = l1 at *
  generalize m.all.length % 65536 = n1 at *
  generalize m.s = s at *
  generalize m.p = p at *
  generalize m.period = pe at *
  obtain ⟨c0, f0, g0⟩ := h
  go_enter Try.func59, Try.ntmps59
  go_wp2
  go_ret
  exact ⟨rfl, rfl⟩
end Go.Proofs.Ytbjplijhoibclaa
