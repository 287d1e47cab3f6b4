import Derived.Test.YtcmoffiigpchiaaGreatSealW
import Derived.Test.YtcmoffiigpchiaaGreatOneW
import Derived.Test.YtcmoffiigpchiaaGreatRecW
import Derived.Test.YtcmoffiigpchiaaGreatBase
import Derived.Test.YtcmoffiigpchiaaGreatOfW
namespace Go.Proofs.YtcmoffiigpchiaaGreat
open Go.RowKit

set_option maxRecDepth 100000 in
set_option maxHeartbeats 1000000 in
theorem begin_ref (w : World) : Calls Tryz.prog 55 #[] w fun e w' => e = .returned Frame.begin.val ∧ Below w.heap.size w w' := by
  have hm := make16
  have hb := zeros_back 16 zc16 (fun j hj => by rw [zc16_eq]; exact repl_at 16 _ j hj)
  have hz := Frame.zeroB_size 16
  have HB : Hid (Frame.begin = ⟨0, 0, (Frame.zeroB 16).extract 0 4, Frame.zeroB 16, 0, -1, -1, false, false⟩) := by
    show _ = _
    unfold Frame.begin
    congr 1
  generalize Frame.zeroB 16 = z at *
  generalize zc16 = C at *
  have hs : ∀ X : Obj, (w.alloc X).heap.size = w.heap.size + 1 := fun X => by simp
  have hm2 : ∀ X : Obj, (Instr.makeSlice 111 (.int .i64 16) (.int .i64 16)).run Tryz.prog (w.alloc X) = .ok (.slice (some ⟨w.heap.size + 1, 0, none⟩) 16 16) ((w.alloc X).alloc (.cells C 5)) := fun X => by rw [← hs X]; exact hm (w.alloc X)
  have hb2 : ∀ X : Obj, (convert 111 9 (.slice (some ⟨w.heap.size + 1, 0, none⟩) 16 16)).run Tryz.prog ((w.alloc X).alloc (.cells C 5)) = .ok (.string z) ((w.alloc X).alloc (.cells C 5)) := fun X => by rw [← hs X]; exact hb (w.alloc X)
  clear hm hb hs
  go_enter Tryz.func55, Tryz.ntmps55
  go_wp2
  refine bodyPost_ret (v := StV.val ⟨0, 0, z.extract 0 4, z, 0, -1, -1, false, false⟩) (by simp [results, Tryz.results55, go_sem]) rfl ⟨by rw [HB.out], ?_⟩
  repeat (refine Below.setCell ?_ (by simp <;> omega) _)
  exact bel2
end Go.Proofs.YtcmoffiigpchiaaGreat

namespace Go.Proofs.YtcmoffiigpchiaaGreat
open Go.RowKit

set_option maxRecDepth 100000 in
set_option maxHeartbeats 2000000 in
theorem new_err (p : ByteArray) (room period : Int) (hp : p.size ≤ maxLen) (h : newErr p room period ≠ 0) (w : World) :
    Calls Tryz.prog 32 #[.string p, .int .i64 room, .int .i64 period] w fun e w' => e = .returned (.tuple #[.pointer none, .int .i64 (newErr p room period)]) ∧ Below w.heap.size w w' := by
  by_cases h1 : (Code.chk p).1 = 0
  · have h1' : ((Code.chk p).1 != 0) = false := by simp [h1]
    by_cases h2 : room < 2 ∨ 64 < room ∨ period < 1 ∨ 50 < period
    · have e : newErr p room period = 3 := by simp [newErr, h1, h2]
      rw [e]
      clear e h h1
      by_cases a1 : room < 2
      · clear h2
        go_enter Tryz.func32, Tryz.ntmps32
        go_wp2_with (go_at_call 24; refine (check_ref _ _ hp).mono ?_; rintro e w1 ⟨rfl, hb⟩; have L1 := hide hb; clear hb)
        go_ret2
        exact ⟨rfl, unhide L1⟩
      · by_cases a2 : 64 < room
        · clear h2
          go_enter Tryz.func32, Tryz.ntmps32
          go_wp2_with (go_at_call 24; refine (check_ref _ _ hp).mono ?_; rintro e w1 ⟨rfl, hb⟩; have L1 := hide hb; clear hb)
          go_ret2
          exact ⟨rfl, unhide L1⟩
        · by_cases a3 : period < 1
          · clear h2
            go_enter Tryz.func32, Tryz.ntmps32
            go_wp2_with (go_at_call 24; refine (check_ref _ _ hp).mono ?_; rintro e w1 ⟨rfl, hb⟩; have L1 := hide hb; clear hb)
            go_ret2
            exact ⟨rfl, unhide L1⟩
          · have a4 : 50 < period := by omega
            clear h2
            go_enter Tryz.func32, Tryz.ntmps32
            go_wp2_with (go_at_call 24; refine (check_ref _ _ hp).mono ?_; rintro e w1 ⟨rfl, hb⟩; have L1 := hide hb; clear hb)
            go_ret2
            exact ⟨rfl, unhide L1⟩
    · exact absurd (by simp [newErr, h1, h2]) h
  · have h1' : ((Code.chk p).1 != 0) = true := by simp [h1]
    have e : newErr p room period = (Code.chk p).1 := by simp [newErr, h1]
    rw [e]
    clear e h h1
    go_enter Tryz.func32, Tryz.ntmps32
    go_wp2_with (go_at_call 24; refine (check_ref _ _ hp).mono ?_; rintro e w1 ⟨rfl, hb⟩; have L1 := hide hb; clear hb)
    go_ret2
    exact ⟨rfl, unhide L1⟩

set_option maxRecDepth 100000 in
set_option maxHeartbeats 4000000 in
theorem new_ok (p : ByteArray) (room period : Int) (hp : p.size ≤ maxLen) (h1 : (Code.chk p).1 = 0) (r0 : 2 ≤ room) (r1 : room ≤ 64) (q0 : 1 ≤ period) (q1 : period ≤ 50) (w : World) :
    Calls Tryz.prog 32 #[.string p, .int .i64 room, .int .i64 period] w fun e w' => ∃ b g, e = .returned (.tuple #[.pointer (some ⟨b, 0, none⟩), .int .i64 0]) ∧ RefAt w' b g 1 (RM.new p room period) ∧ w.heap.size ≤ b ∧ w.heap.size ≤ g ∧ Below w.heap.size w w' := by
  have h1' : ((Code.chk p).1 != 0) = false := by simp [h1]
  clear h1
  have HB := hide begin_ref
  have HO := hide (fun w => ofState_ref 0 (by omega) Frame.begin begin_legal w)
  have HN : Hid (RM.new p room period = ⟨p, room, period, Frame.begin, [Frame.ofState 0 Frame.begin], 0, 0⟩) := rfl
  generalize Frame.ofState 0 Frame.begin = fr at *
  generalize Frame.begin = s at *
  obtain ⟨n, pc, regs, cells, clock, handler, back, pending, halted⟩ := s
  go_enter Tryz.func32, Tryz.ntmps32
  go_wp2_with (first | (go_at_call 24; refine (check_ref _ _ hp).mono ?_; rintro e w1 ⟨rfl, hb⟩; have L1 := hide hb; clear hb) | (go_at_call 55; refine (unhide HB _).mono ?_; rintro e w2 ⟨rfl, hb⟩; have L2 := hide hb; clear hb))
  go_region_held3 (fun w' => w'.cell? ⟨w2.heap.size, 0, none⟩ = some (.int .i64 n) ∧ w'.cell? ⟨w2.heap.size, 1, none⟩ = some (.int .i64 pc) ∧ w'.cell? ⟨w2.heap.size, 2, none⟩ = some (.string regs) ∧ w'.cell? ⟨w2.heap.size, 3, none⟩ = some (.string cells) ∧ w'.cell? ⟨w2.heap.size, 4, none⟩ = some (.int .i64 clock) ∧ w'.cell? ⟨w2.heap.size, 5, none⟩ = some (.int .i64 handler) ∧ w'.cell? ⟨w2.heap.size, 6, none⟩ = some (.int .i64 back) ∧ w'.cell? ⟨w2.heap.size, 7, none⟩ = some (.bool pending) ∧ w'.cell? ⟨w2.heap.size, 8, none⟩ = some (.bool halted)) (go_keep) (first | (go_at_call 56; refine (unhide HO _).mono ?_; rintro e w3 ⟨rfl, hb⟩; have X3 := hide (Box.next (Box.new w2 #[.int .i64 n, .int .i64 pc, .string regs, .string cells, .int .i64 clock, .int .i64 handler, .int .i64 back, .bool pending, .bool halted] 30).drew hb); have L3 := hide (bel_undrew hb); clear hb; obtain ⟨c3, f3, lt3⟩ := unhide X3; clear f3))
  go_wp2
  go_ret2
  have hl3 := bel_alloc (unhide L3)
  have hb2 := (unhide L1).size
  have hb3 := (unhide L2).size
  have hb4 := hl3.size
  refine ⟨w3.heap.size + 1, w3.heap.size, rfl, ?_, by omega, by omega, bel_then (unhide L1) (bel_then (unhide L2) (bel_then hl3 bel2))⟩
  rw [HN.out]
  refine ⟨?_, ?_, by omega⟩
  · have h := Box.new (w3.alloc (.cells #[.string fr] 9)) (RM.cells ⟨p, room, period, ⟨n, pc, regs, cells, clock, handler, back, pending, halted⟩, [fr], 0, 0⟩ (.slice (some ⟨w3.heap.size, 0, none⟩) 1 1)) 68
    have e : (w3.alloc (.cells #[.string fr] 9)).heap.size = w3.heap.size + 1 := by simp
    rw [e] at h
    exact h
  · refine ⟨rfl, .inr ⟨w3.heap.size, 1, #[.string fr], rfl, Nat.zero_le _, ?_, Nat.le_refl _, by unfold maxLen; omega, rfl, rfl⟩⟩
    rw [Below.heap_alloc _ _ _ (by simp)]
    exact heap_alloc_new w3 _
end Go.Proofs.YtcmoffiigpchiaaGreat
