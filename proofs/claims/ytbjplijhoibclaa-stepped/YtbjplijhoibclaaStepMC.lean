import Derived.Test.YtbjplijhoibclaaNewC
import Derived.Deep.RegionHeld3
namespace Go.Proofs.Ytbjplijhoibclaa
open Go.RowKit

theorem Mach.Good.chk {p : ByteArray} (g : Mach.Good p) : Code.chk p = (0, 0) := Code.chk_ok (by have := g.short; omega) g.all g.whole
theorem RM.stepErr_eq {m : RM} (hm : m.Ok) (c : ChV) : Mach.refusal m.p m.s c = RM.stepErr m c := by
  unfold Mach.refusal RM.stepErr
  rw [hm.good.chk, (Mach.legal_iff m.s).2 hm.legal]
  simp
theorem second_box {w w2 : World} {X : Obj} {Y : Array Value} {ty : TypeId} (hb : Below ((w.alloc X).alloc (.cells Y ty)).drew.heap.size ((w.alloc X).alloc (.cells Y ty)).drew w2) : Box w2 (w.heap.size + 1) Y := by
  have h := (Box.new (w.alloc X) Y ty).drew.next hb
  have e : (w.alloc X).heap.size = w.heap.size + 1 := by simp
  rwa [e] at h
theorem nine_box {w : World} {b : Nat} {a0 a1 a2 a3 a4 a5 a6 a7 a8 : Value} (h : Box w b #[a0, a1, a2, a3, a4, a5, a6, a7, a8]) (v0 v1 v2 v3 v4 v5 v6 v7 v8 : Value) :
    Box (((((((((w.setCell ⟨b, 0, none⟩ v0).setCell ⟨b, 1, none⟩ v1).setCell ⟨b, 2, none⟩ v2).setCell ⟨b, 3, none⟩ v3).setCell ⟨b, 4, none⟩ v4).setCell ⟨b, 5, none⟩ v5).setCell ⟨b, 6, none⟩ v6).setCell ⟨b, 7, none⟩ v7).setCell ⟨b, 8, none⟩ v8) b #[v0, v1, v2, v3, v4, v5, v6, v7, v8] := by
  rw [← nine a0 a1 a2 a3 a4 a5 a6 a7 a8 v0 v1 v2 v3 v4 v5 v6 v7 v8]
  exact ((((((((h.set 0 v0 (by simp)).set 1 v1 (by simp)).set 2 v2 (by simp)).set 3 v3 (by simp)).set 4 v4 (by simp)).set 5 v5 (by simp)).set 6 v6 (by simp)).set 7 v7 (by simp)).set 8 v8 (by simp)

/-- Where region 1 of Step ends. -/
def Stood (w : World) (b : Nat) (mc : Array Value) (c : ChV) (s' : StV) (e : Int) (x5 x6 : Value) (wx : World) : Prop :=
  x6 = .int .i64 e ∧ ∃ k, x5 = .pointer (some ⟨k, 0, none⟩) ∧ w.heap.size < k ∧ Box wx k #[.int .i64 s'.n, .int .i64 s'.pc, .string s'.regs, .string s'.cells, .int .i64 s'.clock, .int .i64 s'.handler, .int .i64 s'.back, .bool s'.pending, .bool s'.halted] ∧ Box wx b mc ∧ Box wx w.heap.size #[.int .i64 c.input, .int .i64 c.ticks, .bool c.interrupt] ∧ Below w.heap.size w wx

set_option maxRecDepth 100000 in
set_option maxHeartbeats 1000000 in
theorem stepC_err (b : Nat) (m : RM) (hm : m.Ok) (c : ChV) (he : RM.stepErr m c ≠ 0) (w : World) (h : Box w b m.ccells) :
    Calls Try.prog 25 #[.pointer (some ⟨b, 0, none⟩), c.val] w fun e w' => e = .returned (.int .i64 (RM.stepErr m c)) ∧ Below w.heap.size w w' := by
  have hsh := hm.good.short
  have HX := hide (step_code m.p m.s c (by unfold maxLen; omega))
  have hst : Mach.step m.p m.s c = (Mach.zero, RM.stepErr m c) := by
    unfold Mach.step
    rw [RM.stepErr_eq hm c, if_neg he]
  rw [hst] at HX
  simp only at HX
  have hne : (RM.stepErr m c != 0) = true := by simp [he]
  unfold RM.ccells at h
  generalize RM.stepErr m c = er at *
  generalize RM.traceOf m = t1 at *
  generalize m.room = r1 at *
  generalize m.last = l1 at *
  generalize m.all.length % 65536 = n1 at *
  generalize m.s = s at *
  generalize m.p = p at *
  generalize m.period = pe at *
  generalize Mach.zero = s' at *
  clear hm hst he
  obtain ⟨n, pc, regs, cells, clock, handler, back, pending, halted⟩ := s
  obtain ⟨input, ticks, interrupt⟩ := c
  obtain ⟨n', pc', regs', cells', clock', handler', back', pending', halted'⟩ := s'
  have B0 := hide h
  obtain ⟨c0, f0, g0⟩ := h
  have nb : ¬ b = w.heap.size := by omega
  have nb2 : ¬ w.heap.size = b := by omega
  have nb3 : ¬ b = w.heap.size + 1 := by omega
  have nb4 : ¬ w.heap.size + 1 = b := by omega
  clear g0
  go_enter Try.func25, Try.ntmps25
  go_upto_region 1 with fail
  go_cut [5, 6] (fun x5 x6 wx => Stood w b (cmc p pe ⟨n, pc, regs, cells, clock, handler, back, pending, halted⟩ t1 l1 r1 n1) ⟨input, ticks, interrupt⟩ ⟨n', pc', regs', cells', clock', handler', back', pending', halted'⟩ er x5 x6 wx)
  case first =>
    go_region_held3 (fun w' => w'.cell? ⟨b, 0, none⟩ = some (.string p) ∧ w'.cell? ⟨b, 2, none⟩ = some (.int .i64 n) ∧ w'.cell? ⟨b, 3, none⟩ = some (.int .i64 pc) ∧ w'.cell? ⟨b, 4, none⟩ = some (.string regs) ∧ w'.cell? ⟨b, 5, none⟩ = some (.string cells) ∧ w'.cell? ⟨b, 6, none⟩ = some (.int .i64 clock) ∧ w'.cell? ⟨b, 7, none⟩ = some (.int .i64 handler) ∧ w'.cell? ⟨b, 8, none⟩ = some (.int .i64 back) ∧ w'.cell? ⟨b, 9, none⟩ = some (.bool pending) ∧ w'.cell? ⟨b, 10, none⟩ = some (.bool halted) ∧ w'.cell? ⟨w.heap.size, 0, none⟩ = some (.int .i64 input) ∧ w'.cell? ⟨w.heap.size, 1, none⟩ = some (.int .i64 ticks) ∧ w'.cell? ⟨w.heap.size, 2, none⟩ = some (.bool interrupt)) (first | go_keep | (go_simp; done)) (first | (go_at_call 40; refine (unhide HX _).mono ?_; rintro e w2 ⟨rfl, hb⟩; have HB := hide hb; clear hb; (first | (have X2 := hide (((unhide B0).alloc _).drew.next (unhide HB)); have C2 := hide ((Box.new w _ _).drew.next (unhide HB)); have L2 : Hid (Below w.heap.size w w2) := bel_alloc (bel_undrew (unhide HB))) | (have X2 := hide ((((unhide B0).alloc _).alloc _).drew.next (unhide HB)); have C2 := hide (((Box.new w _ _).alloc _).drew.next (unhide HB)); have L2 : Hid (Below w.heap.size w w2) := bel_alloc (bel_alloc (bel_undrew (unhide HB))); have S2 := hide (second_box (unhide HB)); obtain ⟨c5, f5, g5⟩ := unhide S2)); obtain ⟨cx, fx, gx⟩ := unhide X2; obtain ⟨cc, fc, gc⟩ := unhide C2))
    all_goals
      go_wp2_with fail
      go_meet
      case rel => first | exact ⟨rfl, w.heap.size + 1, rfl, by omega, nine_box (unhide S2) _ _ _ _ _ _ _ _ _, (unhide X2).off9 (by omega) _ _ _ _ _ _ _ _ _, (unhide C2).off9 (by omega) _ _ _ _ _ _ _ _ _, bel_put9 (unhide L2) (by omega) _ _ _ _ _ _ _ _ _⟩ | exact ⟨rfl, w2.heap.size, rfl, gc, Box.new w2 _ _, (unhide X2).alloc _, (unhide C2).alloc _, (unhide L2).alloc (unhide L2).size _⟩
  case rest =>
    obtain ⟨rfl, k, rfl, hk, x1, y1, z1, l1⟩ := hcut
    have L1 := hide l1
    clear x1 y1 z1 l1
    go_wp2_with fail
    go_ret
    exact ⟨rfl, unhide L1⟩
end Go.Proofs.Ytbjplijhoibclaa
