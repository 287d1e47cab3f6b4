import Derived.Test.YtcmoffiigpchiabGreatFrC
import Derived.Test.YtcmoffiigpchiabGreatStepW
import Derived.Deep.RegionLaw
import Derived.Deep.QuietTactic
import Derived.BigQuiet
import Derived.Deep.RegionHeld3
namespace Go.Proofs.YtcmoffiigpchiabGreat
open Go.RowKit

set_option maxRecDepth 100000 in
set_option maxHeartbeats 400000 in
theorem newRec_code (room : Int) (w : World) :
    Calls Tryz.prog 48 #[.int .i64 room] w fun e w' => e = .returned (rcv ⟨#[]⟩ 0 room 0) ∧ Below w.heap.size w w' := by
  go_enter Tryz.func48, Tryz.ntmps48
  go_wp2
  refine bodyPost_ret (v := rcv ⟨#[]⟩ 0 room 0) (by simp [results, Tryz.results48, go_sem]) rfl ⟨rfl, ?_⟩
  repeat (refine Below.setCell ?_ (by simp) _)
  exact (Below.refl _ _).alloc (Nat.le_refl _) _

set_option maxRecDepth 100000 in
set_option maxHeartbeats 400000 in
theorem beginning_code (w : World) : Calls Tryz.prog 47 #[] w fun e w' => e = .returned Frame.begin.val ∧ Below w.heap.size w w' := by
  have D1 := hide (noughts_code 4 (by decide))
  have D2 := hide (noughts_code 16 (by decide))
  have HB : Hid (Frame.begin = ⟨0, 0, Frame.zeroB 4, Frame.zeroB 16, 0, -1, -1, false, false⟩) := rfl
  generalize Frame.zeroB 4 = z4 at *
  generalize Frame.zeroB 16 = z16 at *
  go_enter Tryz.func47, Tryz.ntmps47
  go_wp2_with fail
  refine (unhide D1 _).mono ?_
  rintro e w1 ⟨rfl, hb⟩
  have X1 := hide ((Box.new w _ _).next hb)
  have L1 := hide (bel_alloc hb)
  clear hb
  go_wp2_with fail
  refine (unhide D2 _).mono ?_
  rintro e w2 ⟨rfl, hb⟩
  have X2 := hide ((unhide X1).next hb)
  have L2 := hide (bel_then (unhide L1) hb)
  clear hb
  obtain ⟨cx, fx, gx⟩ := unhide X2
  go_wp2_with fail
  refine bodyPost_ret (v := StV.val ⟨0, 0, z4, z16, 0, -1, -1, false, false⟩) (by simp [results, Tryz.results47, go_sem, cx]) rfl ⟨by rw [unhide HB], ?_⟩
  repeat (refine Below.setCell ?_ (by simp) _)
  exact unhide L2

theorem Box.off9 {w : World} {b x : Nat} {ca : Array Value} (h : Box w b ca) (hx : b ≠ x) (v0 v1 v2 v3 v4 v5 v6 v7 v8 : Value) :
    Box (((((((((w.setCell ⟨x, 0, none⟩ v0).setCell ⟨x, 1, none⟩ v1).setCell ⟨x, 2, none⟩ v2).setCell ⟨x, 3, none⟩ v3).setCell ⟨x, 4, none⟩ v4).setCell ⟨x, 5, none⟩ v5).setCell ⟨x, 6, none⟩ v6).setCell ⟨x, 7, none⟩ v7).setCell ⟨x, 8, none⟩ v8) b ca :=
  ((((((((h.off hx v0).off hx v1).off hx v2).off hx v3).off hx v4).off hx v5).off hx v6).off hx v7).off hx v8
theorem bel_put9 {w w1 : World} {k x : Nat} (h : Below k w w1) (hx : k ≤ x) (v0 v1 v2 v3 v4 v5 v6 v7 v8 : Value) :
    Below k w (((((((((w1.setCell ⟨x, 0, none⟩ v0).setCell ⟨x, 1, none⟩ v1).setCell ⟨x, 2, none⟩ v2).setCell ⟨x, 3, none⟩ v3).setCell ⟨x, 4, none⟩ v4).setCell ⟨x, 5, none⟩ v5).setCell ⟨x, 6, none⟩ v6).setCell ⟨x, 7, none⟩ v7).setCell ⟨x, 8, none⟩ v8) := by
  repeat (refine Below.setCell ?_ (by simpa using hx) _)
  exact h

set_option maxRecDepth 100000 in
set_option maxHeartbeats 800000 in
theorem counts_code (p : ByteArray) (hg : Mach.Good p) (s : StV) (hs : Mach.Legal s) (c : ChV) (hc : Mach.Chosen c) (w : World) :
    Calls Tryz.prog 59 #[.string p, s.val, c.val] w fun e w' => e = .returned (.bool (RM.counts p s c)) ∧ Below w.heap.size w w' := by
  have HV := hide (arrive_code s c hs hc)
  have hl := Mach.arrive_legal hs hc
  by_cases hi : c.interrupt = true
  · have HR : Hid (RM.counts p s c = true) := hide (by simp [RM.counts, hi])
    obtain ⟨n, pc, regs, cells, clock, handler, back, pending, halted⟩ := s
    obtain ⟨input, ticks, interrupt⟩ := c
    simp only at hi
    subst hi
    clear hl hs hc
    go_enter Tryz.func59, Tryz.ntmps59
    go_wp2_with fail
    go_ret
    exact ⟨by rw [unhide HR]; rfl, bel2⟩
  · by_cases ht : c.ticks = 0
    · by_cases hf : 3 * (Mach.arrive s c).pc.toNat < p.size
      · have HT := hide (at_code p hg (Mach.arrive s c).pc hl.pc0 hl.pc1 hf)
        have HR : Hid (RM.counts p s c = (decide (Mach.op p (Mach.arrive s c).pc.toNat = 63) && decide (c.input ≠ 0))) := hide (by simp [RM.counts, RM.asks, hi, ht, hf])
        clear hl hs hc hf
        generalize Mach.op p (Mach.arrive s c).pc.toNat = o at *
        generalize Mach.fst p (Mach.arrive s c).pc.toNat = r at *
        generalize Mach.snd p (Mach.arrive s c).pc.toNat = t at *
        generalize Mach.arrive s c = s' at *
        obtain ⟨n, pc, regs, cells, clock, handler, back, pending, halted⟩ := s
        obtain ⟨n', pc', regs', cells', clock', handler', back', pending', halted'⟩ := s'
        obtain ⟨input, ticks, interrupt⟩ := c
        simp only at hi ht HT HR
        have hi' : interrupt = false := by simpa using hi
        subst hi' ht
        clear hi
        by_cases h0 : input = 0
        · have d0 : (input != 0) = false := by simp [h0]
          have H0 := hide h0
          clear h0
          go_enter Tryz.func59, Tryz.ntmps59
          go_wp2_with fail
          refine (unhide HV _).mono ?_
          rintro e w1 ⟨rfl, hb⟩
          obtain ⟨c0, c1, f0, f1, hs1, hbl⟩ := boxes2 hb
          have Y1 : Hid (Box w1 (w.heap.size + 1) _) := hide ⟨c1, f1, by omega⟩
          have B1 := hide hbl
          clear hb hs1 hbl
          go_wp2_with fail
          refine (unhide HT _).mono ?_
          rintro e w2 ⟨rfl, hb⟩
          have Y2 := hide (((unhide Y1).off9 (by omega) _ _ _ _ _ _ _ _ _).next hb)
          have B2 := hide ((bel_put9 (unhide B1) (Nat.le_refl _) _ _ _ _ _ _ _ _ _).trans (hb.mono (by have := (unhide B1).size; simp; omega)))
          clear hb c0 c1 f0 f1
          obtain ⟨c1, f1, g1⟩ := unhide Y2
          go_wp2_with fail
          go_ret
          refine ⟨by rw [unhide HR]; exact (ret_bool (by simp [unhide H0])), ?_⟩
          refine Below.alloc (unhide B2) (unhide B2).size _
        · have d0 : (input != 0) = true := by simp [h0]
          have H0 := hide h0
          clear h0
          by_cases h6 : o = 63
          · have d6 : ((o : Int) == 63) = true := by simp [h6]
            have H6 := hide h6
            clear h6
            go_enter Tryz.func59, Tryz.ntmps59
            go_wp2_with fail
            refine (unhide HV _).mono ?_
            rintro e w1 ⟨rfl, hb⟩
            obtain ⟨c0, c1, f0, f1, hs1, hbl⟩ := boxes2 hb
            have Y1 : Hid (Box w1 (w.heap.size + 1) _) := hide ⟨c1, f1, by omega⟩
            have B1 := hide hbl
            clear hb hs1 hbl
            go_wp2_with fail
            refine (unhide HT _).mono ?_
            rintro e w2 ⟨rfl, hb⟩
            have Y2 := hide (((unhide Y1).off9 (by omega) _ _ _ _ _ _ _ _ _).next hb)
            have B2 := hide ((bel_put9 (unhide B1) (Nat.le_refl _) _ _ _ _ _ _ _ _ _).trans (hb.mono (by have := (unhide B1).size; simp; omega)))
            clear hb c0 c1 f0 f1
            obtain ⟨c1, f1, g1⟩ := unhide Y2
            go_wp2_with fail
            go_ret
            refine ⟨by rw [unhide HR]; exact (ret_bool (by simp [unhide H0, unhide H6])), ?_⟩
            refine Below.alloc (unhide B2) (unhide B2).size _
          · have d6 : ((o : Int) == 63) = false := by simp; omega
            have H6 := hide h6
            clear h6
            go_enter Tryz.func59, Tryz.ntmps59
            go_wp2_with fail
            refine (unhide HV _).mono ?_
            rintro e w1 ⟨rfl, hb⟩
            obtain ⟨c0, c1, f0, f1, hs1, hbl⟩ := boxes2 hb
            have Y1 : Hid (Box w1 (w.heap.size + 1) _) := hide ⟨c1, f1, by omega⟩
            have B1 := hide hbl
            clear hb hs1 hbl
            go_wp2_with fail
            refine (unhide HT _).mono ?_
            rintro e w2 ⟨rfl, hb⟩
            have Y2 := hide (((unhide Y1).off9 (by omega) _ _ _ _ _ _ _ _ _).next hb)
            have B2 := hide ((bel_put9 (unhide B1) (Nat.le_refl _) _ _ _ _ _ _ _ _ _).trans (hb.mono (by have := (unhide B1).size; simp; omega)))
            clear hb c0 c1 f0 f1
            obtain ⟨c1, f1, g1⟩ := unhide Y2
            go_wp2_with fail
            go_ret
            refine ⟨by rw [unhide HR]; exact (ret_bool (by simp [unhide H6])), ?_⟩
            refine Below.alloc (unhide B2) (unhide B2).size _
      · have HT := hide (at_none p hg (Mach.arrive s c).pc hl.pc0 hl.pc1 hf)
        have HR : Hid (RM.counts p s c = false) := hide (by simp [RM.counts, RM.asks, hi, ht, hf])
        clear hl hs hc hf
        generalize Mach.arrive s c = s' at *
        obtain ⟨n, pc, regs, cells, clock, handler, back, pending, halted⟩ := s
        obtain ⟨n', pc', regs', cells', clock', handler', back', pending', halted'⟩ := s'
        obtain ⟨input, ticks, interrupt⟩ := c
        simp only at hi ht HT HR
        have hi' : interrupt = false := by simpa using hi
        subst hi' ht
        clear hi
        by_cases h0 : input = 0
        · have d0 : (input != 0) = false := by simp [h0]
          clear h0
          go_enter Tryz.func59, Tryz.ntmps59
          go_wp2_with fail
          refine (unhide HV _).mono ?_
          rintro e w1 ⟨rfl, hb⟩
          obtain ⟨c0, c1, f0, f1, hs1, hbl⟩ := boxes2 hb
          have Y1 : Hid (Box w1 (w.heap.size + 1) _) := hide ⟨c1, f1, by omega⟩
          have B1 := hide hbl
          clear hb hs1 hbl
          go_wp2_with fail
          refine (unhide HT _).mono ?_
          rintro e w2 ⟨rfl, hb⟩
          have Y2 := hide (((unhide Y1).off9 (by omega) _ _ _ _ _ _ _ _ _).next hb)
          have B2 := hide ((bel_put9 (unhide B1) (Nat.le_refl _) _ _ _ _ _ _ _ _ _).trans (hb.mono (by have := (unhide B1).size; simp; omega)))
          clear hb c0 c1 f0 f1
          obtain ⟨c1, f1, g1⟩ := unhide Y2
          go_wp2_with fail
          go_ret
          refine ⟨by rw [unhide HR]; exact rfl, ?_⟩
          refine Below.alloc (unhide B2) (unhide B2).size _
        · have d0 : (input != 0) = true := by simp [h0]
          clear h0
          go_enter Tryz.func59, Tryz.ntmps59
          go_wp2_with fail
          refine (unhide HV _).mono ?_
          rintro e w1 ⟨rfl, hb⟩
          obtain ⟨c0, c1, f0, f1, hs1, hbl⟩ := boxes2 hb
          have Y1 : Hid (Box w1 (w.heap.size + 1) _) := hide ⟨c1, f1, by omega⟩
          have B1 := hide hbl
          clear hb hs1 hbl
          go_wp2_with fail
          refine (unhide HT _).mono ?_
          rintro e w2 ⟨rfl, hb⟩
          have Y2 := hide (((unhide Y1).off9 (by omega) _ _ _ _ _ _ _ _ _).next hb)
          have B2 := hide ((bel_put9 (unhide B1) (Nat.le_refl _) _ _ _ _ _ _ _ _ _).trans (hb.mono (by have := (unhide B1).size; simp; omega)))
          clear hb c0 c1 f0 f1
          obtain ⟨c1, f1, g1⟩ := unhide Y2
          go_wp2_with fail
          go_ret
          refine ⟨by rw [unhide HR]; exact rfl, ?_⟩
          refine Below.alloc (unhide B2) (unhide B2).size _
    · have HR : Hid (RM.counts p s c = true) := hide (by simp [RM.counts, ht])
      obtain ⟨n, pc, regs, cells, clock, handler, back, pending, halted⟩ := s
      obtain ⟨input, ticks, interrupt⟩ := c
      simp only at hi ht HR
      have hi' : interrupt = false := by simpa using hi
      subst hi'
      have dt : (ticks != 0) = true := by simp [ht]
      clear hl hs hc ht hi
      go_enter Tryz.func59, Tryz.ntmps59
      go_wp2_with fail
      go_ret
      exact ⟨by rw [unhide HR]; rfl, bel2⟩
end Go.Proofs.YtcmoffiigpchiabGreat

namespace Go.Proofs.YtcmoffiigpchiabGreat
open Go.RowKit

/-- The code's machine, as it lies. -/
abbrev cmc (p : ByteArray) (period : Int) (s : StV) (kept : ByteArray) (last room : Int) (number : Nat) : Array Value := #[.string p, .int .i64 period, .int .i64 s.n, .int .i64 s.pc, .string s.regs, .string s.cells, .int .i64 s.clock, .int .i64 s.handler, .int .i64 s.back, .bool s.pending, .bool s.halted, .string kept, .int .i64 last, .int .i64 room, .int .i64 (number : Int)]
abbrev RM.ccells (m : RM) : Array Value := cmc m.p m.period m.s (RM.traceOf m) m.last m.room (m.all.length % 65536)

theorem box_rec {w : World} {b : Nat} {p : ByteArray} {period : Int} {s : StV} {k1 k2 : ByteArray} {l1 l2 r1 r2 : Int} {n1 n2 : Nat} (h : Box w b (cmc p period s k1 l1 r1 n1)) :
    Box ((((w.setCell ⟨b, 11, none⟩ (.string k2)).setCell ⟨b, 12, none⟩ (.int .i64 l2)).setCell ⟨b, 13, none⟩ (.int .i64 r2)).setCell ⟨b, 14, none⟩ (.int .i64 (n2 : Int))) b (cmc p period s k2 l2 r2 n2) := by
  have := (((h.set 11 (.string k2) (by simp)).set 12 (.int .i64 l2) (by simp)).set 13 (.int .i64 r2) (by simp)).set 14 (.int .i64 (n2 : Int)) (by simp)
  simpa using this
theorem keeps_rec {w w1 : World} {b : Nat} (h : Keeps w w1 [b]) (v0 v1 v2 v3 : Value) :
    Keeps w ((((w1.setCell ⟨b, 11, none⟩ v0).setCell ⟨b, 12, none⟩ v1).setCell ⟨b, 13, none⟩ v2).setCell ⟨b, 14, none⟩ v3) [b] := by
  repeat (refine Keeps.setCell ?_ (by simp) _)
  exact h

set_option maxRecDepth 100000 in
set_option maxHeartbeats 1000000 in
theorem save_code (b : Nat) (m : RM) (hm : m.Ok) (hh : m.from_ < m.all.length → RM.nthC m.all m.from_ = true) (w : World) (h : Box w b m.ccells) :
    Calls Tryz.prog 35 #[.pointer (some ⟨b, 0, none⟩)] w fun e w' => e = .returned (.tuple #[]) ∧ Box w' b (RM.save m).ccells ∧ Keeps w w' [b] := by
  have HS := hide (withState_code m hm hh)
  have HC : Hid ((RM.save m).ccells = cmc m.p m.period m.s (RM.traceOf (RM.save m)) (RM.save m).last (RM.save m).room ((RM.save m).all.length % 65536)) := hide (by
    obtain ⟨e1, e2, e3⟩ := RM.save_p m
    unfold RM.ccells
    rw [e1, e2, e3])
  rw [unhide HC]
  unfold RM.rcd at HS
  unfold RM.ccells at h
  generalize RM.traceOf (RM.save m) = t2 at *
  generalize (RM.save m).room = r2 at *
  generalize (RM.save m).last = l2 at *
  generalize (RM.save m).all.length % 65536 = n2 at *
  generalize RM.traceOf m = t1 at *
  generalize m.room = r1 at *
  generalize m.last = l1 at *
  generalize m.all.length % 65536 = n1 at *
  generalize m.s = s at *
  generalize m.p = p at *
  generalize m.period = pe at *
  clear hm hh HC
  obtain ⟨n, pc, regs, cells, clock, handler, back, pending, halted⟩ := s
  have B0 := hide h
  obtain ⟨c0, f0, g0⟩ := h
  clear g0
  go_enter Tryz.func35, Tryz.ntmps35
  go_region_law (rw [if_pos (by simp [Region.wanted])]; go_wp2_with (go_at_call 63; refine (unhide HS _).mono ?_; rintro e w1 ⟨rfl, hb⟩; have L1 := hide (bel_undrew hb); clear hb; have B1 := hide ((unhide B0).next (unhide L1)); obtain ⟨c1, f1, g1⟩ := unhide B1; clear g1))
  all_goals
    go_wp2
    go_end0
    exact ⟨rfl, box_rec (unhide B1), keeps_rec (keeps_of (unhide L1) _) _ _ _ _⟩
set_option maxRecDepth 100000 in
set_option maxHeartbeats 400000 in
theorem state_code (b : Nat) (m : RM) (w : World) (h : Box w b m.ccells) :
    Calls Tryz.prog 37 #[.pointer (some ⟨b, 0, none⟩)] w fun e w' => e = .returned m.s.val ∧ Below w.heap.size w w' := by
  unfold RM.ccells at h
  generalize RM.traceOf m = t1 at *
  generalize m.room = r1 at *
  generalize m.last = l1 at *
  generalize m.all.length % 65536 = n1 at *
  generalize m.s = s at *
  generalize m.p = p at *
  generalize m.period = pe at *
  obtain ⟨n, pc, regs, cells, clock, handler, back, pending, halted⟩ := s
  obtain ⟨c0, f0, g0⟩ := h
  have nb : ¬ b = w.heap.size := by omega
  have nb2 : ¬ w.heap.size = b := by omega
  go_enter Tryz.func37, Tryz.ntmps37
  go_wp2
  refine bodyPost_ret (v := StV.val ⟨n, pc, regs, cells, clock, handler, back, pending, halted⟩) (by simp [results, Tryz.results37, go_sem]) rfl ⟨rfl, ?_⟩
  first | exact (Below.refl _ _).alloc (Nat.le_refl _) _ | (repeat (refine Below.setCell ?_ (by simp) _); exact (Below.refl _ _).alloc (Nat.le_refl _) _)

set_option maxRecDepth 100000 in
set_option maxHeartbeats 400000 in
theorem trace_code (b : Nat) (m : RM) (w : World) (h : Box w b m.ccells) :
    Calls Tryz.prog 38 #[.pointer (some ⟨b, 0, none⟩)] w fun e w' => e = .returned (.string (RM.traceOf m)) ∧ w' = w := by
  unfold RM.ccells at h
  generalize RM.traceOf m = t1 at *
  generalize m.room = r1 at *
  generalize m.last = l1 at *
  generalize m.all.length % 65536 = n1 at *
  generalize m.s = s at *
  generalize m.p = p at *
  generalize m.period = pe at *
  obtain ⟨c0, f0, g0⟩ := h
  go_enter Tryz.func38, Tryz.ntmps38
  go_wp2
  go_ret
  exact ⟨rfl, rfl⟩
end Go.Proofs.YtcmoffiigpchiabGreat

namespace Go.Proofs.YtcmoffiigpchiabGreat
open Go.RowKit

theorem box_st {w : World} {b : Nat} {p : ByteArray} {pe : Int} {s1 s2 : StV} {k : ByteArray} {l r : Int} {nb : Nat} (h : Box w b (cmc p pe s1 k l r nb)) :
    Box (((((((((w.setCell ⟨b, 2, none⟩ (.int .i64 s2.n)).setCell ⟨b, 3, none⟩ (.int .i64 s2.pc)).setCell ⟨b, 4, none⟩ (.string s2.regs)).setCell ⟨b, 5, none⟩ (.string s2.cells)).setCell ⟨b, 6, none⟩ (.int .i64 s2.clock)).setCell ⟨b, 7, none⟩ (.int .i64 s2.handler)).setCell ⟨b, 8, none⟩ (.int .i64 s2.back)).setCell ⟨b, 9, none⟩ (.bool s2.pending)).setCell ⟨b, 10, none⟩ (.bool s2.halted)) b (cmc p pe s2 k l r nb) := by
  have := ((((((((h.set 2 (.int .i64 s2.n) (by simp)).set 3 (.int .i64 s2.pc) (by simp)).set 4 (.string s2.regs) (by simp)).set 5 (.string s2.cells) (by simp)).set 6 (.int .i64 s2.clock) (by simp)).set 7 (.int .i64 s2.handler) (by simp)).set 8 (.int .i64 s2.back) (by simp)).set 9 (.bool s2.pending) (by simp)).set 10 (.bool s2.halted) (by simp)
  simpa using this
theorem keeps_st {w w1 : World} {b : Nat} (h : Keeps w w1 [b]) (v0 v1 v2 v3 v4 v5 v6 v7 v8 : Value) :
    Keeps w (((((((((w1.setCell ⟨b, 2, none⟩ v0).setCell ⟨b, 3, none⟩ v1).setCell ⟨b, 4, none⟩ v2).setCell ⟨b, 5, none⟩ v3).setCell ⟨b, 6, none⟩ v4).setCell ⟨b, 7, none⟩ v5).setCell ⟨b, 8, none⟩ v6).setCell ⟨b, 9, none⟩ v7).setCell ⟨b, 10, none⟩ v8) [b] := by
  repeat (refine Keeps.setCell ?_ (by simp) _)
  exact h
theorem bel_st {w w1 : World} {k b : Nat} (h : Below k w w1) (hb : k ≤ b) (v0 v1 v2 v3 v4 v5 v6 v7 v8 : Value) :
    Below k w (((((((((w1.setCell ⟨b, 2, none⟩ v0).setCell ⟨b, 3, none⟩ v1).setCell ⟨b, 4, none⟩ v2).setCell ⟨b, 5, none⟩ v3).setCell ⟨b, 6, none⟩ v4).setCell ⟨b, 7, none⟩ v5).setCell ⟨b, 8, none⟩ v6).setCell ⟨b, 9, none⟩ v7).setCell ⟨b, 10, none⟩ v8) := by
  repeat (refine Below.setCell ?_ (by simpa using hb) _)
  exact h
theorem bel_rec {w w1 : World} {k b : Nat} (h : Below k w w1) (hb : k ≤ b) (v0 v1 v2 v3 : Value) :
    Below k w ((((w1.setCell ⟨b, 11, none⟩ v0).setCell ⟨b, 12, none⟩ v1).setCell ⟨b, 13, none⟩ v2).setCell ⟨b, 14, none⟩ v3) := by
  repeat (refine Below.setCell ?_ (by simpa using hb) _)
  exact h
/-- Keeps but for a block that was made behind. -/
theorem below_of_keeps {a w w' : World} {k b : Nat} (h : Below k a w) (hk : Keeps w w' [b]) (hb : k ≤ b) (hs : k ≤ w.heap.size) : Below k a w' :=
  ⟨hk.os.trans h.os, hk.tape.trans h.tape, hk.output.trans h.output, Nat.le_trans h.size hk.size, fun i hi => by
    rw [hk.block i (by omega) (by simp; omega)]; exact h.block i hi⟩

/-- A machine of which nothing is written down yet. -/
def RM.bare (p : ByteArray) (room period : Int) : RM := ⟨p, room, period, Frame.begin, [], 0, 0⟩
theorem RM.bare_ok {p : ByteArray} {room period : Int} (g : Mach.Good p) (r0 : 2 ≤ room) (r1 : room ≤ 64) (q0 : 1 ≤ period) (q1 : period ≤ 50) : (RM.bare p room period).Ok :=
  ⟨g, r0, r1, q0, q1, begin_legal, Nat.zero_le _, fun f hf => by simp [RM.bare] at hf, Int.le_refl _, Int.le_refl _, by simp [RM.bare], by simp [RM.bare]⟩
theorem RM.save_bare (p : ByteArray) (room period : Int) (r0 : 2 ≤ room) : RM.save (RM.bare p room period) = RM.new p room period := by
  have e : RM.place (RM.bare p room period) = (RM.bare p room period, false) := by
    unfold RM.place
    rw [if_pos (by simp [RM.bare]; omega)]
  unfold RM.save
  rw [e]
  rfl
theorem RM.new_inv {p : ByteArray} {room period : Int} (g : Mach.Good p) (r0 : 2 ≤ room) (r1 : room ≤ 64) (q0 : 1 ≤ period) (q1 : period ≤ 50) : (RM.new p room period).Inv :=
  ⟨RM.new_ok g r0 r1 q0 q1, by simp [RM.new], RM.isC_state _ _, by simp [RM.new]; omega⟩

set_option maxRecDepth 100000 in
set_option maxHeartbeats 400000 in
theorem newC_err (p : ByteArray) (room period : Int) (hp : p.size ≤ maxLen) (h : newErr p room period ≠ 0) (w : World) :
    Calls Tryz.prog 25 #[.string p, .int .i64 room, .int .i64 period] w fun e w' => e = .returned (.tuple #[.pointer none, .int .i64 (newErr p room period)]) ∧ w' = w := by
  by_cases h1 : (Code.chk p).1 = 0
  · have h1' : ((Code.chk p).1 != 0) = false := by simp [h1]
    by_cases h2 : room < 2 ∨ 64 < room ∨ period < 1 ∨ 50 < period
    · have e : newErr p room period = 3 := by simp [newErr, h1, h2]
      rw [e]
      clear e h h1
      by_cases a1 : room < 2
      · clear h2
        go_enter Tryz.func25, Tryz.ntmps25
        go_wp2_with (go_at_call 40; refine (check_code _ _ hp).mono ?_; rintro e w1 ⟨rfl, rfl⟩)
        go_ret2
        exact ⟨rfl, rfl⟩
      · by_cases a2 : 64 < room
        · clear h2
          go_enter Tryz.func25, Tryz.ntmps25
          go_wp2_with (go_at_call 40; refine (check_code _ _ hp).mono ?_; rintro e w1 ⟨rfl, rfl⟩)
          go_ret2
          exact ⟨rfl, rfl⟩
        · by_cases a3 : period < 1
          · clear h2
            go_enter Tryz.func25, Tryz.ntmps25
            go_wp2_with (go_at_call 40; refine (check_code _ _ hp).mono ?_; rintro e w1 ⟨rfl, rfl⟩)
            go_ret2
            exact ⟨rfl, rfl⟩
          · have a4 : 50 < period := by omega
            clear h2
            go_enter Tryz.func25, Tryz.ntmps25
            go_wp2_with (go_at_call 40; refine (check_code _ _ hp).mono ?_; rintro e w1 ⟨rfl, rfl⟩)
            go_ret2
            exact ⟨rfl, rfl⟩
    · exact absurd (by simp [newErr, h1, h2]) h
  · have h1' : ((Code.chk p).1 != 0) = true := by simp [h1]
    have e : newErr p room period = (Code.chk p).1 := by simp [newErr, h1]
    rw [e]
    clear e h h1
    go_enter Tryz.func25, Tryz.ntmps25
    go_wp2_with (go_at_call 40; refine (check_code _ _ hp).mono ?_; rintro e w1 ⟨rfl, rfl⟩)
    go_ret2
    exact ⟨rfl, rfl⟩

set_option maxRecDepth 100000 in
set_option maxHeartbeats 1000000 in
theorem newC_ok (p : ByteArray) (room period : Int) (hp : p.size ≤ maxLen) (h1 : (Code.chk p).1 = 0) (r0 : 2 ≤ room) (r1 : room ≤ 64) (q0 : 1 ≤ period) (q1 : period ≤ 50) (w : World) :
    Calls Tryz.prog 25 #[.string p, .int .i64 room, .int .i64 period] w fun e w' => ∃ b, e = .returned (.tuple #[.pointer (some ⟨b, 0, none⟩), .int .i64 0]) ∧ Box w' b (RM.new p room period).ccells ∧ w.heap.size ≤ b ∧ Below w.heap.size w w' := by
  have h1' : ((Code.chk p).1 != 0) = false := by simp [h1]
  have HB := hide beginning_code
  have HR := hide (newRec_code room)
  have HV := hide (fun W => save_code w.heap.size (RM.bare p room period) (RM.bare_ok (Mach.good_of h1) r0 r1 q0 q1) (fun h => absurd h (by simp [RM.bare])) W)
  rw [RM.save_bare p room period r0] at HV
  have HX : Hid ((RM.bare p room period).ccells = cmc p period Frame.begin ⟨#[]⟩ 0 room 0) := hide rfl
  generalize (RM.new p room period).ccells = goal at *
  generalize Frame.begin = s0 at *
  clear h1
  obtain ⟨n, pc, regs, cells, clock, handler, back, pending, halted⟩ := s0
  go_enter Tryz.func25, Tryz.ntmps25
  go_wp2_with (go_at_call 40; refine (check_code _ _ hp).mono ?_; rintro e w1 ⟨rfl, rfl⟩)
  refine (unhide HB _).mono ?_
  rintro e w2 ⟨rfl, hb⟩
  have X2 := hide ((Box.new w1 (cmc p period ⟨0, 0, ⟨#[]⟩, ⟨#[]⟩, 0, 0, 0, false, false⟩ ⟨#[]⟩ 0 0 0) _).next hb)
  have L2 := hide (bel_alloc hb)
  clear hb
  obtain ⟨c2, f2, g2⟩ := unhide X2
  clear g2
  go_wp2_with fail
  refine (unhide HR _).mono ?_
  rintro e w3 ⟨rfl, hb⟩
  have X3 := hide ((box_st (s2 := ⟨n, pc, regs, cells, clock, handler, back, pending, halted⟩) (unhide X2)).next hb)
  have L3 := hide ((bel_st (unhide L2) (Nat.le_refl _) _ _ _ _ _ _ _ _ _).trans (hb.mono (by have := (unhide L2).size; simp; omega)))
  clear hb c2 f2
  obtain ⟨c3, f3, g3⟩ := unhide X3
  clear g3
  go_wp2_with fail
  refine (unhide HV _ (by rw [unhide HX]; exact box_rec (unhide X3))).mono ?_
  rintro e w4 ⟨rfl, hbox, hk⟩
  have L4 := hide (below_of_keeps (bel_rec (unhide L3) (Nat.le_refl _) _ _ _ _) hk (Nat.le_refl _) (by have := (unhide L3).size; simp; omega))
  have X4 := hide hbox
  clear hbox hk c3 f3
  go_wp2_with fail
  go_ret2
  exact ⟨w1.heap.size, rfl, unhide X4, Nat.le_refl _, unhide L4⟩
end Go.Proofs.YtcmoffiigpchiabGreat

namespace Go.Proofs.YtcmoffiigpchiabGreat
open Go.RowKit

theorem Mach.Good.chk {p : ByteArray} (g : Mach.Good p) : Code.chk p = (0, 0) := Code.chk_ok (by have := g.short; omega) g.all g.whole
theorem RM.stepErr_eq {m : RM} (hm : m.Ok) (c : ChV) : Mach.refusal m.p m.s c = RM.stepErr m c := by
  unfold Mach.refusal RM.stepErr
  rw [hm.good.chk, (Mach.legal_iff m.s).2 hm.legal]
  simp
theorem second_box {w w2 : World} {X : Obj} {Y : Array Value} {ty : TypeId} (hb : Below ((w.alloc X).alloc (.cells Y ty)).drew.heap.size ((w.alloc X).alloc (.cells Y ty)).drew w2) : Box w2 (w.heap.size + 1) Y := by
  have h := (Box.new (w.alloc X) Y ty).drew.next hb
  have e : (w.alloc X).heap.size = w.heap.size + 1 := by simp
  rwa [e] at h
theorem nine_box {w : World} {b : Nat} {a0 a1 a2 a3 a4 a5 a6 a7 a8 : Value} (h : Box w b #[a0, a1, a2, a3, a4, a5, a6, a7, a8]) (v0 v1 v2 v3 v4 v5 v6 v7 v8 : Value) :
    Box (((((((((w.setCell ⟨b, 0, none⟩ v0).setCell ⟨b, 1, none⟩ v1).setCell ⟨b, 2, none⟩ v2).setCell ⟨b, 3, none⟩ v3).setCell ⟨b, 4, none⟩ v4).setCell ⟨b, 5, none⟩ v5).setCell ⟨b, 6, none⟩ v6).setCell ⟨b, 7, none⟩ v7).setCell ⟨b, 8, none⟩ v8) b #[v0, v1, v2, v3, v4, v5, v6, v7, v8] := by
  rw [← nine a0 a1 a2 a3 a4 a5 a6 a7 a8 v0 v1 v2 v3 v4 v5 v6 v7 v8]
  exact ((((((((h.set 0 v0 (by simp)).set 1 v1 (by simp)).set 2 v2 (by simp)).set 3 v3 (by simp)).set 4 v4 (by simp)).set 5 v5 (by simp)).set 6 v6 (by simp)).set 7 v7 (by simp)).set 8 v8 (by simp)

/-- Where region 1 of Step ends. -/
def Stood (w : World) (b : Nat) (mc : Array Value) (c : ChV) (s' : StV) (e : Int) (x5 x6 : Value) (wx : World) : Prop :=
  x6 = .int .i64 e ∧ ∃ k, x5 = .pointer (some ⟨k, 0, none⟩) ∧ w.heap.size < k ∧ Box wx k #[.int .i64 s'.n, .int .i64 s'.pc, .string s'.regs, .string s'.cells, .int .i64 s'.clock, .int .i64 s'.handler, .int .i64 s'.back, .bool s'.pending, .bool s'.halted] ∧ Box wx b mc ∧ Box wx w.heap.size #[.int .i64 c.input, .int .i64 c.ticks, .bool c.interrupt] ∧ Below w.heap.size w wx

set_option maxRecDepth 100000 in
set_option maxHeartbeats 1000000 in
theorem stepC_err (b : Nat) (m : RM) (hm : m.Ok) (c : ChV) (he : RM.stepErr m c ≠ 0) (w : World) (h : Box w b m.ccells) :
    Calls Tryz.prog 33 #[.pointer (some ⟨b, 0, none⟩), c.val] w fun e w' => e = .returned (.int .i64 (RM.stepErr m c)) ∧ Below w.heap.size w w' := by
  have hsh := hm.good.short
  have HX := hide (step_code m.p m.s c (by unfold maxLen; omega))
  have hst : Mach.step m.p m.s c = (Mach.zero, RM.stepErr m c) := by
    unfold Mach.step
    rw [RM.stepErr_eq hm c, if_neg he]
  rw [hst] at HX
  simp only at HX
  have hne : (RM.stepErr m c != 0) = true := by simp [he]
  unfold RM.ccells at h
  generalize RM.stepErr m c = er at *
  generalize RM.traceOf m = t1 at *
  generalize m.room = r1 at *
  generalize m.last = l1 at *
  generalize m.all.length % 65536 = n1 at *
  generalize m.s = s at *
  generalize m.p = p at *
  generalize m.period = pe at *
  generalize Mach.zero = s' at *
  clear hm hst he
  obtain ⟨n, pc, regs, cells, clock, handler, back, pending, halted⟩ := s
  obtain ⟨input, ticks, interrupt⟩ := c
  obtain ⟨n', pc', regs', cells', clock', handler', back', pending', halted'⟩ := s'
  have B0 := hide h
  obtain ⟨c0, f0, g0⟩ := h
  have nb : ¬ b = w.heap.size := by omega
  have nb2 : ¬ w.heap.size = b := by omega
  have nb3 : ¬ b = w.heap.size + 1 := by omega
  have nb4 : ¬ w.heap.size + 1 = b := by omega
  clear g0
  go_enter Tryz.func33, Tryz.ntmps33
  go_upto_region 1 with fail
  go_cut [5, 6] (fun x5 x6 wx => Stood w b (cmc p pe ⟨n, pc, regs, cells, clock, handler, back, pending, halted⟩ t1 l1 r1 n1) ⟨input, ticks, interrupt⟩ ⟨n', pc', regs', cells', clock', handler', back', pending', halted'⟩ er x5 x6 wx)
  case first =>
    go_region_held3 (fun w' => w'.cell? ⟨b, 0, none⟩ = some (.string p) ∧ w'.cell? ⟨b, 2, none⟩ = some (.int .i64 n) ∧ w'.cell? ⟨b, 3, none⟩ = some (.int .i64 pc) ∧ w'.cell? ⟨b, 4, none⟩ = some (.string regs) ∧ w'.cell? ⟨b, 5, none⟩ = some (.string cells) ∧ w'.cell? ⟨b, 6, none⟩ = some (.int .i64 clock) ∧ w'.cell? ⟨b, 7, none⟩ = some (.int .i64 handler) ∧ w'.cell? ⟨b, 8, none⟩ = some (.int .i64 back) ∧ w'.cell? ⟨b, 9, none⟩ = some (.bool pending) ∧ w'.cell? ⟨b, 10, none⟩ = some (.bool halted) ∧ w'.cell? ⟨w.heap.size, 0, none⟩ = some (.int .i64 input) ∧ w'.cell? ⟨w.heap.size, 1, none⟩ = some (.int .i64 ticks) ∧ w'.cell? ⟨w.heap.size, 2, none⟩ = some (.bool interrupt)) (first | go_keep | (go_simp; done)) (first | (go_at_call 42; refine (unhide HX _).mono ?_; rintro e w2 ⟨rfl, hb⟩; have HB := hide hb; clear hb; (first | (have X2 := hide (((unhide B0).alloc _).drew.next (unhide HB)); have C2 := hide ((Box.new w _ _).drew.next (unhide HB)); have L2 : Hid (Below w.heap.size w w2) := bel_alloc (bel_undrew (unhide HB))) | (have X2 := hide ((((unhide B0).alloc _).alloc _).drew.next (unhide HB)); have C2 := hide (((Box.new w _ _).alloc _).drew.next (unhide HB)); have L2 : Hid (Below w.heap.size w w2) := bel_alloc (bel_alloc (bel_undrew (unhide HB))); have S2 := hide (second_box (unhide HB)); obtain ⟨c5, f5, g5⟩ := unhide S2)); obtain ⟨cx, fx, gx⟩ := unhide X2; obtain ⟨cc, fc, gc⟩ := unhide C2))
    all_goals
      go_wp2_with fail
      go_meet
      case rel => first | exact ⟨rfl, w.heap.size + 1, rfl, by omega, nine_box (unhide S2) _ _ _ _ _ _ _ _ _, (unhide X2).off9 (by omega) _ _ _ _ _ _ _ _ _, (unhide C2).off9 (by omega) _ _ _ _ _ _ _ _ _, bel_put9 (unhide L2) (by omega) _ _ _ _ _ _ _ _ _⟩ | exact ⟨rfl, w2.heap.size, rfl, gc, Box.new w2 _ _, (unhide X2).alloc _, (unhide C2).alloc _, (unhide L2).alloc (unhide L2).size _⟩
  case rest =>
    obtain ⟨rfl, k, rfl, hk, x1, y1, z1, l1⟩ := hcut
    have L1 := hide l1
    clear x1 y1 z1 l1
    go_wp2_with fail
    go_ret
    exact ⟨rfl, unhide L1⟩
end Go.Proofs.YtcmoffiigpchiabGreat
