import Derived.Test.YtbjplijhoibclaaMachC
namespace Go.Proofs.Ytbjplijhoibclaa
open Go.RowKit

theorem box_st {w : World} {b : Nat} {p : ByteArray} {pe : Int} {s1 s2 : StV} {k : ByteArray} {l r : Int} {nb : Nat} (h : Box w b (cmc p pe s1 k l r nb)) :
    Box (((((((((w.setCell ⟨b, 2, none⟩ (.int .i64 s2.n)).setCell ⟨b, 3, none⟩ (.int .i64 s2.pc)).setCell ⟨b, 4, none⟩ (.string s2.regs)).setCell ⟨b, 5, none⟩ (.string s2.cells)).setCell ⟨b, 6, none⟩ (.int .i64 s2.clock)).setCell ⟨b, 7, none⟩ (.int .i64 s2.handler)).setCell ⟨b, 8, none⟩ (.int .i64 s2.back)).setCell ⟨b, 9, none⟩ (.bool s2.pending)).setCell ⟨b, 10, none⟩ (.bool s2.halted)) b (cmc p pe s2 k l r nb) := by
  have := ((((((((h.set 2 (.int .i64 s2.n) (by simp)).set 3 (.int .i64 s2.pc) (by simp)).set 4 (.string s2.regs) (by simp)).set 5 (.string s2.cells) (by simp)).set 6 (.int .i64 s2.clock) (by simp)).set 7 (.int .i64 s2.handler) (by simp)).set 8 (.int .i64 s2.back) (by simp)).set 9 (.bool s2.pending) (by simp)).set 10 (.bool s2.halted) (by simp)
  simpa using this
theorem keeps_st {w w1 : World} {b : Nat} (h : Keeps w w1 [b]) (v0 v1 v2 v3 v4 v5 v6 v7 v8 : Value) :
    Keeps w (((((((((w1.setCell ⟨b, 2, none⟩ v0).setCell ⟨b, 3, none⟩ v1).setCell ⟨b, 4, none⟩ v2).setCell ⟨b, 5, none⟩ v3).setCell ⟨b, 6, none⟩ v4).setCell ⟨b, 7, none⟩ v5).setCell ⟨b, 8, none⟩ v6).setCell ⟨b, 9, none⟩ v7).setCell ⟨b, 10, none⟩ v8) [b] := by
  repeat (refine Keeps.setCell ?_ (by simp) _)
  exact h
theorem bel_st {w w1 : World} {k b : Nat} (h : Below k w w1) (hb : k ≤ b) (v0 v1 v2 v3 v4 v5 v6 v7 v8 : Value) :
    Below k w (((((((((w1.setCell ⟨b, 2, none⟩ v0).setCell ⟨b, 3, none⟩ v1).setCell ⟨b, 4, none⟩ v2).setCell ⟨b, 5, none⟩ v3).setCell ⟨b, 6, none⟩ v4).setCell ⟨b, 7, none⟩ v5).setCell ⟨b, 8, none⟩ v6).setCell ⟨b, 9, none⟩ v7).setCell ⟨b, 10, none⟩ v8) := by
  repeat (refine Below.setCell ?_ (by simpa using hb) _)
  exact h
theorem bel_rec {w w1 : World} {k b : Nat} (h : Below k w w1) (hb : k ≤ b) (v0 v1 v2 v3 : Value) :
    Below k w ((((w1.setCell ⟨b, 11, none⟩ v0).setCell ⟨b, 12, none⟩ v1).setCell ⟨b, 13, none⟩ v2).setCell ⟨b, 14, none⟩ v3) := by
  repeat (refine Below.setCell ?_ (by simpa using hb) _)
  exact h
/-- Keeps but for a block that was made behind. -/
theorem below_of_keeps {a w w' : World} {k b : Nat} (h : Below k a w) (hk : Keeps w w' [b]) (hb : k ≤ b) (hs : k ≤ w.heap.size) : Below k a w' :=
  ⟨hk.os.trans h.os, hk.tape.trans h.tape, hk.output.trans h.output, Nat.le_trans h.size hk.size, fun i hi => by
    rw [hk.block i (by omega) (by simp; omega)]; exact h.block i hi⟩

/-- A machine of which nothing is written down yet. -/
def RM.bare (p : ByteArray) (room period : Int) : RM := ⟨p, room, period, Frame.begin, [], 0, 0⟩
theorem RM.bare_ok {p : ByteArray} {room period : Int} (g : Mach.Good p) (r0 : 2 ≤ room) (r1 : room ≤ 64) (q0 : 1 ≤ period) (q1 : period ≤ 50) : (RM.bare p room period).Ok :=
  ⟨g, r0, r1, q0, q1, begin_legal, Nat.zero_le _, fun f hf => by simp [RM.bare] at hf, Int.le_refl _, Int.le_refl _, by simp [RM.bare], by simp [RM.bare]⟩
theorem RM.save_bare (p : ByteArray) (room period : Int) (r0 : 2 ≤ room) : RM.save (RM.bare p room period) = RM.new p room period := by
  have e : RM.place (RM.bare p room period) = (RM.bare p room period, false) := by
    unfold RM.place
    rw [if_pos (by simp [RM.bare]; omega)]
  unfold RM.save
  rw [e]
  rfl
theorem RM.new_inv {p : ByteArray} {room period : Int} (g : Mach.Good p) (r0 : 2 ≤ room) (r1 : room ≤ 64) (q0 : 1 ≤ period) (q1 : period ≤ 50) : (RM.new p room period).Inv :=
  ⟨RM.new_ok g r0 r1 q0 q1, by simp [RM.new], RM.isC_state _ _, by simp [RM.new]; omega⟩

set_option maxRecDepth 100000 in
set_option maxHeartbeats 400000 in
theorem newC_err (p : ByteArray) (room period : Int) (hp : p.size ≤ maxLen) (h : newErr p room period ≠ 0) (w : World) :
    Calls Try.prog 18 #[.string p, .int .i64 room, .int .i64 period] w fun e w' => e = .returned (.tuple #[.pointer none, .int .i64 (newErr p room period)]) ∧ w' = w := by
  by_cases h1 : (Code.chk p).1 = 0
  · have h1' : ((Code.chk p).1 != 0) = false := by simp [h1]
    by_cases h2 : room < 2 ∨ 64 < room ∨ period < 1 ∨ 50 < period
    · have e : newErr p room period = 3 := by simp [newErr, h1, h2]
      rw [e]
      clear e h h1
      by_cases a1 : room < 2
      · clear h2
        go_enter Try.func18, Try.ntmps18
        go_wp2_with (go_at_call 36; refine (check_code _ _ hp).mono ?_; rintro e w1 ⟨rfl, rfl⟩)
        go_ret2
        exact ⟨rfl, rfl⟩
      · by_cases a2 : 64 < room
        · clear h2
          go_enter Try.func18, Try.ntmps18
          go_wp2_with (go_at_call 36; refine (check_code _ _ hp).mono ?_; rintro e w1 ⟨rfl, rfl⟩)
          go_ret2
          exact ⟨rfl, rfl⟩
        · by_cases a3 : period < 1
          · clear h2
            go_enter Try.func18, Try.ntmps18
            go_wp2_with (go_at_call 36; refine (check_code _ _ hp).mono ?_; rintro e w1 ⟨rfl, rfl⟩)
            go_ret2
            exact ⟨rfl, rfl⟩
          · have a4 : 50 < period := by omega
            clear h2
            go_enter Try.func18, Try.ntmps18
            go_wp2_with (go_at_call 36; refine (check_code _ _ hp).mono ?_; rintro e w1 ⟨rfl, rfl⟩)
            go_ret2
            exact ⟨rfl, rfl⟩
    · exact absurd (by simp [newErr, h1, h2]) h
  · have h1' : ((Code.chk p).1 != 0) = true := by simp [h1]
    have e : newErr p room period = (Code.chk p).1 := by simp [newErr, h1]
    rw [e]
    clear e h h1
    go_enter Try.func18, Try.ntmps18
    go_wp2_with (go_at_call 36; refine (check_code _ _ hp).mono ?_; rintro e w1 ⟨rfl, rfl⟩)
    go_ret2
    exact ⟨rfl, rfl⟩

set_option maxRecDepth 100000 in
set_option maxHeartbeats 1000000 in
theorem newC_ok (p : ByteArray) (room period : Int) (hp : p.size ≤ maxLen) (h1 : (Code.chk p).1 = 0) (r0 : 2 ≤ room) (r1 : room ≤ 64) (q0 : 1 ≤ period) (q1 : period ≤ 50) (w : World) :
    Calls Try.prog 18 #[.string p, .int .i64 room, .int .i64 period] w fun e w' => ∃ b, e = .returned (.tuple #[.pointer (some ⟨b, 0, none⟩), .int .i64 0]) ∧ Box w' b (RM.new p room period).ccells ∧ w.heap.size ≤ b ∧ Below w.heap.size w w' := by
  have h1' : ((Code.chk p).1 != 0) = false := by simp [h1]
  have HB := hide beginning_code
  have HR := hide (newRec_code room)
  have HV := hide (fun W => save_code w.heap.size (RM.bare p room period) (RM.bare_ok (Mach.good_of h1) r0 r1 q0 q1) (fun h => absurd h (by simp [RM.bare])) W)
  rw [RM.save_bare p room period r0] at HV
  have HX : Hid ((RM.bare p room period).ccells = cmc p period Frame.begin ⟨#[]⟩ 0 room 0) := hide rfl
  generalize (RM.new p room period).ccells = goal at *
  generalize Frame.begin = s0 at *
  clear h1
  obtain ⟨n, pc, regs, cells, clock, handler, back, pending, halted⟩ := s0
  go_enter Try.func18, Try.ntmps18
  go_wp2_with (go_at_call 36; refine (check_code _ _ hp).mono ?_; rintro e w1 ⟨rfl, rfl⟩)
  refine (unhide HB _).mono ?_
  rintro e w2 ⟨rfl, hb⟩
  have X2 := hide ((Box.new w1 (cmc p period ⟨0, 0, ⟨#[]⟩, ⟨#[]⟩, 0, 0, 0, false, false⟩ ⟨#[]⟩ 0 0 0) _).next hb)
  have L2 := hide (bel_alloc hb)
  clear hb
  obtain ⟨c2, f2, g2⟩ := unhide X2
  clear g2
  go_wp2_with fail
  refine (unhide HR _).mono ?_
  rintro e w3 ⟨rfl, hb⟩
  have X3 := hide ((box_st (s2 := ⟨n, pc, regs, cells, clock, handler, back, pending, halted⟩) (unhide X2)).next hb)
  have L3 := hide ((bel_st (unhide L2) (Nat.le_refl _) _ _ _ _ _ _ _ _ _).trans (hb.mono (by have := (unhide L2).size; simp; omega)))
  clear hb c2 f2
  obtain ⟨c3, f3, g3⟩ := unhide X3
  clear g3
  go_wp2_with fail
  refine (unhide HV _ (by rw [unhide HX]; exact box_rec (unhide X3))).mono ?_
  rintro e w4 ⟨rfl, hbox, hk⟩
  have L4 := hide (below_of_keeps (bel_rec (unhide L3) (Nat.le_refl _) _ _ _ _) hk (Nat.le_refl _) (by have := (unhide L3).size; simp; omega))
  have X4 := hide hbox
  clear hbox hk c3 f3
  go_wp2_with fail
  go_ret2
  exact ⟨w1.heap.size, rfl, unhide X4, Nat.le_refl _, unhide L4⟩
end Go.Proofs.Ytbjplijhoibclaa
