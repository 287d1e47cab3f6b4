import Derived.Test.YtbjplijhoibclaaRecE
namespace Go.Proofs.Ytbjplijhoibclaa
open Go.RowKit

set_option maxRecDepth 100000 in
set_option maxHeartbeats 400000 in
theorem newRec_code (room : Int) (w : World) :
    Calls Try.prog 38 #[.int .i64 room] w fun e w' => e = .returned (rcv ⟨#[]⟩ 0 room 0) ∧ Below w.heap.size w w' := by
  go_enter Try.func38, Try.ntmps38
  go_wp2
  refine bodyPost_ret (v := rcv ⟨#[]⟩ 0 room 0) (by simp [results, Try.results38, go_sem]) rfl ⟨rfl, ?_⟩
  repeat (refine Below.setCell ?_ (by simp) _)
  exact (Below.refl _ _).alloc (Nat.le_refl _) _

set_option maxRecDepth 100000 in
set_option maxHeartbeats 400000 in
theorem beginning_code (w : World) : Calls Try.prog 37 #[] w fun e w' => e = .returned Frame.begin.val ∧ Below w.heap.size w w' := by
  have D1 := hide (noughts_code 4 (by decide))
  have D2 := hide (noughts_code 16 (by decide))
  have HB : Hid (Frame.begin = ⟨0, 0, Frame.zeroB 4, Frame.zeroB 16, 0, -1, -1, false, false⟩) := rfl
  generalize Frame.zeroB 4 = z4 at *
  generalize Frame.zeroB 16 = z16 at *
  go_enter Try.func37, Try.ntmps37
  go_wp2_with fail
  refine (unhide D1 _).mono ?_
  rintro e w1 ⟨rfl, hb⟩
  have X1 := hide ((Box.new w _ _).next hb)
  have L1 := hide (bel_alloc hb)
  clear hb
  go_wp2_with fail
  refine (unhide D2 _).mono ?_
  rintro e w2 ⟨rfl, hb⟩
  have X2 := hide ((unhide X1).next hb)
  have L2 := hide (bel_then (unhide L1) hb)
  clear hb
  obtain ⟨cx, fx, gx⟩ := unhide X2
  go_wp2_with fail
  refine bodyPost_ret (v := StV.val ⟨0, 0, z4, z16, 0, -1, -1, false, false⟩) (by simp [results, Try.results37, go_sem, cx]) rfl ⟨by rw [unhide HB], ?_⟩
  repeat (refine Below.setCell ?_ (by simp) _)
  exact unhide L2

theorem Box.off9 {w : World} {b x : Nat} {ca : Array Value} (h : Box w b ca) (hx : b ≠ x) (v0 v1 v2 v3 v4 v5 v6 v7 v8 : Value) :
    Box (((((((((w.setCell ⟨x, 0, none⟩ v0).setCell ⟨x, 1, none⟩ v1).setCell ⟨x, 2, none⟩ v2).setCell ⟨x, 3, none⟩ v3).setCell ⟨x, 4, none⟩ v4).setCell ⟨x, 5, none⟩ v5).setCell ⟨x, 6, none⟩ v6).setCell ⟨x, 7, none⟩ v7).setCell ⟨x, 8, none⟩ v8) b ca :=
  ((((((((h.off hx v0).off hx v1).off hx v2).off hx v3).off hx v4).off hx v5).off hx v6).off hx v7).off hx v8
theorem bel_put9 {w w1 : World} {k x : Nat} (h : Below k w w1) (hx : k ≤ x) (v0 v1 v2 v3 v4 v5 v6 v7 v8 : Value) :
    Below k w (((((((((w1.setCell ⟨x, 0, none⟩ v0).setCell ⟨x, 1, none⟩ v1).setCell ⟨x, 2, none⟩ v2).setCell ⟨x, 3, none⟩ v3).setCell ⟨x, 4, none⟩ v4).setCell ⟨x, 5, none⟩ v5).setCell ⟨x, 6, none⟩ v6).setCell ⟨x, 7, none⟩ v7).setCell ⟨x, 8, none⟩ v8) := by
  repeat (refine Below.setCell ?_ (by simpa using hx) _)
  exact h

set_option maxRecDepth 100000 in
set_option maxHeartbeats 800000 in
theorem counts_code (p : ByteArray) (hg : Mach.Good p) (s : StV) (hs : Mach.Legal s) (c : ChV) (hc : Mach.Chosen c) (w : World) :
    Calls Try.prog 41 #[.string p, s.val, c.val] w fun e w' => e = .returned (.bool (RM.counts p s c)) ∧ Below w.heap.size w w' := by
  have HV := hide (arrive_code s c hs hc)
  have hl := Mach.arrive_legal hs hc
  by_cases hi : c.interrupt = true
  · have HR : Hid (RM.counts p s c = true) := hide (by simp [RM.counts, hi])
    obtain ⟨n, pc, regs, cells, clock, handler, back, pending, halted⟩ := s
    obtain ⟨input, ticks, interrupt⟩ := c
    simp only at hi
    subst hi
    clear hl hs hc
    go_enter Try.func41, Try.ntmps41
    go_wp2_with fail
    go_ret
    exact ⟨by rw [unhide HR]; rfl, bel2⟩
  · by_cases ht : c.ticks = 0
    · by_cases hf : 3 * (Mach.arrive s c).pc.toNat < p.size
      · have HT := hide (at_code p hg (Mach.arrive s c).pc hl.pc0 hl.pc1 hf)
        have HR : Hid (RM.counts p s c = (decide (Mach.op p (Mach.arrive s c).pc.toNat = 63) && decide (c.input ≠ 0))) := hide (by simp [RM.counts, RM.asks, hi, ht, hf])
        clear hl hs hc hf
        generalize Mach.op p (Mach.arrive s c).pc.toNat = o at *
        generalize Mach.fst p (Mach.arrive s c).pc.toNat = r at *
        generalize Mach.snd p (Mach.arrive s c).pc.toNat = t at *
        generalize Mach.arrive s c = s' at *
        obtain ⟨n, pc, regs, cells, clock, handler, back, pending, halted⟩ := s
        obtain ⟨n', pc', regs', cells', clock', handler', back', pending', halted'⟩ := s'
        obtain ⟨input, ticks, interrupt⟩ := c
        simp only at hi ht HT HR
        have hi' : interrupt = false := by simpa using hi
        subst hi' ht
        clear hi
        by_cases h0 : input = 0
        · have d0 : (input != 0) = false := by simp [h0]
          have H0 := hide h0
          clear h0
          go_enter Try.func41, Try.ntmps41
          go_wp2_with fail
          refine (unhide HV _).mono ?_
          rintro e w1 ⟨rfl, hb⟩
          obtain ⟨c0, c1, f0, f1, hs1, hbl⟩ := boxes2 hb
          have Y1 : Hid (Box w1 (w.heap.size + 1) _) := hide ⟨c1, f1, by omega⟩
          have B1 := hide hbl
          clear hb hs1 hbl
          go_wp2_with fail
          refine (unhide HT _).mono ?_
          rintro e w2 ⟨rfl, hb⟩
          have Y2 := hide (((unhide Y1).off9 (by omega) _ _ _ _ _ _ _ _ _).next hb)
          have B2 := hide ((bel_put9 (unhide B1) (Nat.le_refl _) _ _ _ _ _ _ _ _ _).trans (hb.mono (by have := (unhide B1).size; simp; omega)))
          clear hb c0 c1 f0 f1
          obtain ⟨c1, f1, g1⟩ := unhide Y2
          go_wp2_with fail
          go_ret
          refine ⟨by rw [unhide HR]; exact (ret_bool (by simp [unhide H0])), ?_⟩
          refine Below.alloc (unhide B2) (unhide B2).size _
        · have d0 : (input != 0) = true := by simp [h0]
          have H0 := hide h0
          clear h0
          by_cases h6 : o = 63
          · have d6 : ((o : Int) == 63) = true := by simp [h6]
            have H6 := hide h6
            clear h6
            go_enter Try.func41, Try.ntmps41
            go_wp2_with fail
            refine (unhide HV _).mono ?_
            rintro e w1 ⟨rfl, hb⟩
            obtain ⟨c0, c1, f0, f1, hs1, hbl⟩ := boxes2 hb
            have Y1 : Hid (Box w1 (w.heap.size + 1) _) := hide ⟨c1, f1, by omega⟩
            have B1 := hide hbl
            clear hb hs1 hbl
            go_wp2_with fail
            refine (unhide HT _).mono ?_
            rintro e w2 ⟨rfl, hb⟩
            have Y2 := hide (((unhide Y1).off9 (by omega) _ _ _ _ _ _ _ _ _).next hb)
            have B2 := hide ((bel_put9 (unhide B1) (Nat.le_refl _) _ _ _ _ _ _ _ _ _).trans (hb.mono (by have := (unhide B1).size; simp; omega)))
            clear hb c0 c1 f0 f1
            obtain ⟨c1, f1, g1⟩ := unhide Y2
            go_wp2_with fail
            go_ret
            refine ⟨by rw [unhide HR]; exact (ret_bool (by simp [unhide H0, unhide H6])), ?_⟩
            refine Below.alloc (unhide B2) (unhide B2).size _
          · have d6 : ((o : Int) == 63) = false := by simp; omega
            have H6 := hide h6
            clear h6
            go_enter Try.func41, Try.ntmps41
            go_wp2_with fail
            refine (unhide HV _).mono ?_
            rintro e w1 ⟨rfl, hb⟩
            obtain ⟨c0, c1, f0, f1, hs1, hbl⟩ := boxes2 hb
            have Y1 : Hid (Box w1 (w.heap.size + 1) _) := hide ⟨c1, f1, by omega⟩
            have B1 := hide hbl
            clear hb hs1 hbl
            go_wp2_with fail
            refine (unhide HT _).mono ?_
            rintro e w2 ⟨rfl, hb⟩
            have Y2 := hide (((unhide Y1).off9 (by omega) _ _ _ _ _ _ _ _ _).next hb)
            have B2 := hide ((bel_put9 (unhide B1) (Nat.le_refl _) _ _ _ _ _ _ _ _ _).trans (hb.mono (by have := (unhide B1).size; simp; omega)))
            clear hb c0 c1 f0 f1
            obtain ⟨c1, f1, g1⟩ := unhide Y2
            go_wp2_with fail
            go_ret
            refine ⟨by rw [unhide HR]; exact (ret_bool (by simp [unhide H6])), ?_⟩
            refine Below.alloc (unhide B2) (unhide B2).size _
      · have HT := hide (at_none p hg (Mach.arrive s c).pc hl.pc0 hl.pc1 hf)
        have HR : Hid (RM.counts p s c = false) := hide (by simp [RM.counts, RM.asks, hi, ht, hf])
        clear hl hs hc hf
        generalize Mach.arrive s c = s' at *
        obtain ⟨n, pc, regs, cells, clock, handler, back, pending, halted⟩ := s
        obtain ⟨n', pc', regs', cells', clock', handler', back', pending', halted'⟩ := s'
        obtain ⟨input, ticks, interrupt⟩ := c
        simp only at hi ht HT HR
        have hi' : interrupt = false := by simpa using hi
        subst hi' ht
        clear hi
        by_cases h0 : input = 0
        · have d0 : (input != 0) = false := by simp [h0]
          clear h0
          go_enter Try.func41, Try.ntmps41
          go_wp2_with fail
          refine (unhide HV _).mono ?_
          rintro e w1 ⟨rfl, hb⟩
          obtain ⟨c0, c1, f0, f1, hs1, hbl⟩ := boxes2 hb
          have Y1 : Hid (Box w1 (w.heap.size + 1) _) := hide ⟨c1, f1, by omega⟩
          have B1 := hide hbl
          clear hb hs1 hbl
          go_wp2_with fail
          refine (unhide HT _).mono ?_
          rintro e w2 ⟨rfl, hb⟩
          have Y2 := hide (((unhide Y1).off9 (by omega) _ _ _ _ _ _ _ _ _).next hb)
          have B2 := hide ((bel_put9 (unhide B1) (Nat.le_refl _) _ _ _ _ _ _ _ _ _).trans (hb.mono (by have := (unhide B1).size; simp; omega)))
          clear hb c0 c1 f0 f1
          obtain ⟨c1, f1, g1⟩ := unhide Y2
          go_wp2_with fail
          go_ret
          refine ⟨by rw [unhide HR]; exact rfl, ?_⟩
          refine Below.alloc (unhide B2) (unhide B2).size _
        · have d0 : (input != 0) = true := by simp [h0]
          clear h0
          go_enter Try.func41, Try.ntmps41
          go_wp2_with fail
          refine (unhide HV _).mono ?_
          rintro e w1 ⟨rfl, hb⟩
          obtain ⟨c0, c1, f0, f1, hs1, hbl⟩ := boxes2 hb
          have Y1 : Hid (Box w1 (w.heap.size + 1) _) := hide ⟨c1, f1, by omega⟩
          have B1 := hide hbl
          clear hb hs1 hbl
          go_wp2_with fail
          refine (unhide HT _).mono ?_
          rintro e w2 ⟨rfl, hb⟩
          have Y2 := hide (((unhide Y1).off9 (by omega) _ _ _ _ _ _ _ _ _).next hb)
          have B2 := hide ((bel_put9 (unhide B1) (Nat.le_refl _) _ _ _ _ _ _ _ _ _).trans (hb.mono (by have := (unhide B1).size; simp; omega)))
          clear hb c0 c1 f0 f1
          obtain ⟨c1, f1, g1⟩ := unhide Y2
          go_wp2_with fail
          go_ret
          refine ⟨by rw [unhide HR]; exact rfl, ?_⟩
          refine Below.alloc (unhide B2) (unhide B2).size _
    · have HR : Hid (RM.counts p s c = true) := hide (by simp [RM.counts, ht])
      obtain ⟨n, pc, regs, cells, clock, handler, back, pending, halted⟩ := s
      obtain ⟨input, ticks, interrupt⟩ := c
      simp only at hi ht HR
      have hi' : interrupt = false := by simpa using hi
      subst hi'
      have dt : (ticks != 0) = true := by simp [ht]
      clear hl hs hc ht hi
      go_enter Try.func41, Try.ntmps41
      go_wp2_with fail
      go_ret
      exact ⟨by rw [unhide HR]; rfl, bel2⟩
end Go.Proofs.Ytbjplijhoibclaa
