import Derived.Test.YtcmoffiigpchiaaGreatMovedA
import Derived.Test.YtcmoffiigpchiaaGreatStepW
import Derived.Test.YtcmoffiigpchiaaGreatRefW
namespace Go.Proofs.YtcmoffiigpchiaaGreat
open Go.RowKit

set_option maxRecDepth 100000 in
set_option maxHeartbeats 2000000 in
theorem next_none (p : ByteArray) (_g : Mach.Good p) (s : StV) (c : ChV) (hs : Mach.Legal s) (hc : Mach.Chosen c) (hn : s.n < 10000) (hh : s.halted = false) (h : ¬ 3 * (Mach.arrive s c).pc.toNat < p.size) (w : World) :
    Calls Tryz.prog 51 #[.string p, s.val, c.val] w fun e w' => e = .returned (.tuple #[(Mach.next p s c).val, .string ⟨#[]⟩, .bool true]) ∧ Below w.heap.size w w' := by
  have hl := Mach.arrive_legal hs hc
  have hnx : Mach.next p s c = ⟨(Mach.arrive s c).n + 1, (Mach.arrive s c).pc, (Mach.arrive s c).regs, (Mach.arrive s c).cells, (Mach.arrive s c).clock, (Mach.arrive s c).handler, (Mach.arrive s c).back, (Mach.arrive s c).pending, true⟩ := by
    unfold Mach.next Mach.exec
    simp only [h, if_false]
  rw [hnx]
  have HA : Hid (Mach.arrive s c = Mach.arrive s c) := rfl
  clear hnx
  obtain ⟨n, pc, regs, cells, clock, handler, back, pending, halted⟩ := s
  obtain ⟨input, ticks, interrupt⟩ := c
  obtain ⟨n0, n1, pc0, pc1, hregs, hcells, hc0, hc1, hh0, hh1, hb0, hb1⟩ := hs
  obtain ⟨i0, i1, t0, t1⟩ := hc
  simp only at n0 n1 pc0 pc1 hregs hcells hc0 hc1 hh0 hh1 hb0 hb1 i0 i1 t0 t1 hn hh
  subst hh
  generalize hs' : Mach.arrive ⟨n, pc, regs, cells, clock, handler, back, pending, false⟩ ⟨input, ticks, interrupt⟩ = s' at *
  have HS' := hide hs'
  clear hs' HA
  go_enter Tryz.func51, Tryz.ntmps51
  go_upto_if 26 with fail
  go_cut [] (fun wx => wx = W0 w ⟨n, pc, regs, cells, (clock + ticks) % 65536, handler, back, pending || interrupt, false⟩ ⟨input, ticks, interrupt⟩)
  case first =>
    cases interrupt
    · go_wp2
      go_meet
      case rel => simp
    · go_wp2
      go_meet
      case rel => simp
  case rest =>
    subst hcut
    go_upto_region 6 with fail
    go_cut [39] (fun x wx => x = .bool (decide ((pending || interrupt) = true ∧ handler ≠ -1 ∧ back = -1)) ∧ wx = W0 w ⟨n, pc, regs, cells, (clock + ticks) % 65536, handler, back, pending || interrupt, false⟩ ⟨input, ticks, interrupt⟩)
    case first =>
      generalize (pending || interrupt) = pd at *
      by_cases a1 : handler = -1
      · have d1 : (handler != -1) = false := by simp [a1]
        have A1 := hide a1
        clear a1
        cases pd
        · go_wp2
          go_meet
          case rel => exact ⟨congrArg Value.bool (by simp), rfl⟩
        · go_wp2
          go_meet
          case rel => exact ⟨congrArg Value.bool (by simp [unhide A1]), rfl⟩
      · have d1 : (handler != -1) = true := by simp [a1]
        have A1 := hide a1
        clear a1
        by_cases a2 : back = -1
        · have d2 : (back == -1) = true := by simp [a2]
          have A2 := hide a2
          clear a2
          cases pd
          · go_wp2
            go_meet
            case rel => exact ⟨congrArg Value.bool (by simp), rfl⟩
          · go_wp2
            go_meet
            case rel => exact ⟨congrArg Value.bool (by simp [unhide A1, unhide A2]), rfl⟩
        · have d2 : (back == -1) = false := by simp [a2]
          have A2 := hide a2
          clear a2
          cases pd
          · go_wp2
            go_meet
            case rel => exact ⟨congrArg Value.bool (by simp), rfl⟩
          · go_wp2
            go_meet
            case rel => exact ⟨congrArg Value.bool (by simp [unhide A1, unhide A2]), rfl⟩
    case rest =>
      obtain ⟨rfl, rfl⟩ := hcut
      go_upto_if 39 with fail
      go_cut [] (fun wx => wx = W0 w s' ⟨input, ticks, interrupt⟩)
      case first =>
        by_cases hq : (pending || interrupt) = true ∧ handler ≠ -1 ∧ back = -1
        · have dq : decide ((pending || interrupt) = true ∧ handler ≠ -1 ∧ back = -1) = true := decide_eq_true hq
          have es : s' = ⟨n, handler, regs, cells, (clock + ticks) % 65536, handler, pc, false, false⟩ := by
            rw [← unhide HS']; unfold Mach.arrive; simp only; rw [if_pos hq]
          subst es
          clear hq
          generalize decide ((pending || interrupt) = true ∧ handler ≠ -1 ∧ back = -1) = dd at *
          subst dq
          go_wp2
          go_meet
          case rel => rfl
        · have dq : decide ((pending || interrupt) = true ∧ handler ≠ -1 ∧ back = -1) = false := decide_eq_false hq
          have es : s' = ⟨n, pc, regs, cells, (clock + ticks) % 65536, handler, back, pending || interrupt, false⟩ := by
            rw [← unhide HS']; unfold Mach.arrive; simp only; rw [if_neg hq]
          subst es
          clear hq
          generalize decide ((pending || interrupt) = true ∧ handler ≠ -1 ∧ back = -1) = dd at *
          subst dq
          go_wp2
          go_meet
          case rel => rfl
      case rest =>
        subst hcut
        have hn' : s'.n < 10000 := by rw [← unhide HS', Mach.arrive_n]; exact hn
        clear HS'
        obtain ⟨n', pc', regs', cells', clock', handler', back', pending', halted'⟩ := s'
        obtain ⟨m0, m1, p0, p1, -, -, -, -, -, -, -, -⟩ := hl
        simp only at h hn' m0 m1 p0 p1 ⊢
        have hd : (p.size : Int) ≤ 3 * pc' := by omega
        go_wp2
        exact bodyPost_ret (v := .tuple #[StV.val ⟨n' + 1, pc', regs', cells', clock', handler', back', pending', true⟩, .string ⟨#[]⟩, .bool true]) (by simp [results, Tryz.results51, go_sem]) rfl ⟨rfl, bel3⟩
end Go.Proofs.YtcmoffiigpchiaaGreat

namespace Go.Proofs.YtcmoffiigpchiaaGreat
open Go.RowKit


theorem byt_extract (p : ByteArray) (a b j : Nat) (h : a + j < b) (hb : b ≤ p.size) : Code.byt (p.extract a b) j = Code.byt p (a + j) := by
  have h1 : j < (p.extract a b).size := by simp; omega
  have h2 : a + j < p.size := by omega
  rw [← Code.byt_eq _ _ h1, ← Code.byt_eq _ _ h2]
  congr 1
  show (p.extract a b).data[j]'h1 = p.data[a + j]'h2
  simp [ByteArray.data_extract]
theorem isIns_extract {p : ByteArray} (g : Mach.Good p) {k : Nat} (h : 3 * k < p.size) : 3 * k + 3 ≤ p.size ∧ IsIns p (p.extract (3 * k) (3 * k + 3)) k := by
  have hw := g.whole
  have h3 : 3 * k + 3 ≤ p.size := by omega
  exact ⟨h3, by simp; omega, byt_extract p _ _ 0 (by omega) h3, byt_extract p _ _ 1 (by omega) h3, byt_extract p _ _ 2 (by omega) h3⟩

set_option maxRecDepth 100000 in
set_option maxHeartbeats 2000000 in
theorem next_found (p : ByteArray) (g : Mach.Good p) (s : StV) (c : ChV) (hs : Mach.Legal s) (hc : Mach.Chosen c) (hn : s.n < 10000) (hh : s.halted = false) (h : 3 * (Mach.arrive s c).pc.toNat < p.size) (w : World) :
    Calls Tryz.prog 51 #[.string p, s.val, c.val] w fun e w' => e = .returned (.tuple #[(Mach.next p s c).val, .string (p.extract (3 * (Mach.arrive s c).pc.toNat) (3 * (Mach.arrive s c).pc.toNat + 3)), .bool true]) ∧ Below w.heap.size w w' := by
  have hl := Mach.arrive_legal hs hc
  have hsh := g.short
  have hwh := g.whole
  have hk' : 3 * (Mach.arrive s c).pc.toNat < p.size := h
  have h31 := g.pc31 h
  have hl1 := Mach.bump_legal hl (by have := hl.pc0; omega)
  have HM := hide (fun i (hi : IsIns p i (Mach.arrive s c).pc.toNat) => moved_ref p i g (Mach.arrive s c).pc.toNat h hi { Mach.arrive s c with pc := (Mach.arrive s c).pc + 1 } c hl1 hc)
  have HT := hide (fun i (hi : IsIns p i (Mach.arrive s c).pc.toNat) => turned_all p i g (Mach.arrive s c).pc.toNat h hi (Mach.moved (Mach.op p (Mach.arrive s c).pc.toNat) (Mach.fst p (Mach.arrive s c).pc.toNat) (Mach.snd p (Mach.arrive s c).pc.toNat) { Mach.arrive s c with pc := (Mach.arrive s c).pc + 1 } c.input) (Mach.moved_legal hl1))
  have HE := hide (isIns_extract g h)
  have hdn : (Mach.turned (Mach.op p (Mach.arrive s c).pc.toNat) (Mach.fst p (Mach.arrive s c).pc.toNat) (Mach.snd p (Mach.arrive s c).pc.toNat) (Mach.moved (Mach.op p (Mach.arrive s c).pc.toNat) (Mach.fst p (Mach.arrive s c).pc.toNat) (Mach.snd p (Mach.arrive s c).pc.toNat) { Mach.arrive s c with pc := (Mach.arrive s c).pc + 1 } c.input)).n = s.n := by rw [Mach.turned_n, Mach.moved_n]; exact Mach.arrive_n s c
  have hnx : Mach.next p s c = { Mach.turned (Mach.op p (Mach.arrive s c).pc.toNat) (Mach.fst p (Mach.arrive s c).pc.toNat) (Mach.snd p (Mach.arrive s c).pc.toNat) (Mach.moved (Mach.op p (Mach.arrive s c).pc.toNat) (Mach.fst p (Mach.arrive s c).pc.toNat) (Mach.snd p (Mach.arrive s c).pc.toNat) { Mach.arrive s c with pc := (Mach.arrive s c).pc + 1 } c.input) with n := (Mach.turned (Mach.op p (Mach.arrive s c).pc.toNat) (Mach.fst p (Mach.arrive s c).pc.toNat) (Mach.snd p (Mach.arrive s c).pc.toNat) (Mach.moved (Mach.op p (Mach.arrive s c).pc.toNat) (Mach.fst p (Mach.arrive s c).pc.toNat) (Mach.snd p (Mach.arrive s c).pc.toNat) { Mach.arrive s c with pc := (Mach.arrive s c).pc + 1 } c.input)).n + 1 } := by
    unfold Mach.next Mach.exec Mach.doIns
    simp only [h, if_true]
  rw [hnx]
  generalize Mach.turned (Mach.op p (Mach.arrive s c).pc.toNat) (Mach.fst p (Mach.arrive s c).pc.toNat) (Mach.snd p (Mach.arrive s c).pc.toNat) (Mach.moved (Mach.op p (Mach.arrive s c).pc.toNat) (Mach.fst p (Mach.arrive s c).pc.toNat) (Mach.snd p (Mach.arrive s c).pc.toNat) { Mach.arrive s c with pc := (Mach.arrive s c).pc + 1 } c.input) = s3 at *
  generalize Mach.moved (Mach.op p (Mach.arrive s c).pc.toNat) (Mach.fst p (Mach.arrive s c).pc.toNat) (Mach.snd p (Mach.arrive s c).pc.toNat) { Mach.arrive s c with pc := (Mach.arrive s c).pc + 1 } c.input = s2 at *
  clear hl1 hk' g
  have HA : Hid (Mach.arrive s c = Mach.arrive s c) := rfl
  clear hnx
  obtain ⟨n, pc, regs, cells, clock, handler, back, pending, halted⟩ := s
  obtain ⟨input, ticks, interrupt⟩ := c
  obtain ⟨n0, n1, pc0, pc1, hregs, hcells, hc0, hc1, hh0, hh1, hb0, hb1⟩ := hs
  obtain ⟨i0, i1, t0, t1⟩ := hc
  simp only at n0 n1 pc0 pc1 hregs hcells hc0 hc1 hh0 hh1 hb0 hb1 i0 i1 t0 t1 hn hh
  subst hh
  generalize hs' : Mach.arrive ⟨n, pc, regs, cells, clock, handler, back, pending, false⟩ ⟨input, ticks, interrupt⟩ = s' at *
  have HS' := hide hs'
  clear hs' HA
  go_enter Tryz.func51, Tryz.ntmps51
  go_upto_if 26 with fail
  go_cut [] (fun wx => wx = W0 w ⟨n, pc, regs, cells, (clock + ticks) % 65536, handler, back, pending || interrupt, false⟩ ⟨input, ticks, interrupt⟩)
  case first =>
    cases interrupt
    · go_wp2
      go_meet
      case rel => simp
    · go_wp2
      go_meet
      case rel => simp
  case rest =>
    subst hcut
    go_upto_region 6 with fail
    go_cut [39] (fun x wx => x = .bool (decide ((pending || interrupt) = true ∧ handler ≠ -1 ∧ back = -1)) ∧ wx = W0 w ⟨n, pc, regs, cells, (clock + ticks) % 65536, handler, back, pending || interrupt, false⟩ ⟨input, ticks, interrupt⟩)
    case first =>
      generalize (pending || interrupt) = pd at *
      by_cases a1 : handler = -1
      · have d1 : (handler != -1) = false := by simp [a1]
        have A1 := hide a1
        clear a1
        cases pd
        · go_wp2
          go_meet
          case rel => exact ⟨congrArg Value.bool (by simp), rfl⟩
        · go_wp2
          go_meet
          case rel => exact ⟨congrArg Value.bool (by simp [unhide A1]), rfl⟩
      · have d1 : (handler != -1) = true := by simp [a1]
        have A1 := hide a1
        clear a1
        by_cases a2 : back = -1
        · have d2 : (back == -1) = true := by simp [a2]
          have A2 := hide a2
          clear a2
          cases pd
          · go_wp2
            go_meet
            case rel => exact ⟨congrArg Value.bool (by simp), rfl⟩
          · go_wp2
            go_meet
            case rel => exact ⟨congrArg Value.bool (by simp [unhide A1, unhide A2]), rfl⟩
        · have d2 : (back == -1) = false := by simp [a2]
          have A2 := hide a2
          clear a2
          cases pd
          · go_wp2
            go_meet
            case rel => exact ⟨congrArg Value.bool (by simp), rfl⟩
          · go_wp2
            go_meet
            case rel => exact ⟨congrArg Value.bool (by simp [unhide A1, unhide A2]), rfl⟩
    case rest =>
      obtain ⟨rfl, rfl⟩ := hcut
      go_upto_if 39 with fail
      go_cut [] (fun wx => wx = W0 w s' ⟨input, ticks, interrupt⟩)
      case first =>
        by_cases hq : (pending || interrupt) = true ∧ handler ≠ -1 ∧ back = -1
        · have dq : decide ((pending || interrupt) = true ∧ handler ≠ -1 ∧ back = -1) = true := decide_eq_true hq
          have es : s' = ⟨n, handler, regs, cells, (clock + ticks) % 65536, handler, pc, false, false⟩ := by
            rw [← unhide HS']; unfold Mach.arrive; simp only; rw [if_pos hq]
          subst es
          clear hq
          generalize decide ((pending || interrupt) = true ∧ handler ≠ -1 ∧ back = -1) = dd at *
          subst dq
          go_wp2
          go_meet
          case rel => rfl
        · have dq : decide ((pending || interrupt) = true ∧ handler ≠ -1 ∧ back = -1) = false := decide_eq_false hq
          have es : s' = ⟨n, pc, regs, cells, (clock + ticks) % 65536, handler, back, pending || interrupt, false⟩ := by
            rw [← unhide HS']; unfold Mach.arrive; simp only; rw [if_neg hq]
          subst es
          clear hq
          generalize decide ((pending || interrupt) = true ∧ handler ≠ -1 ∧ back = -1) = dd at *
          subst dq
          go_wp2
          go_meet
          case rel => rfl
      case rest =>
        subst hcut
        clear HS'
        obtain ⟨n', pc', regs', cells', clock', handler', back', pending', halted'⟩ := s'
        obtain ⟨n2, pc2, regs2, cells2, clock2, handler2, back2, pending2, halted2⟩ := s2
        obtain ⟨n3, pc3, regs3, cells3, clock3, handler3, back3, pending3, halted3⟩ := s3
        obtain ⟨m0, m1, p0, p1, -, -, -, -, -, -, -, -⟩ := hl
        simp only at h hdn h31 m0 m1 p0 p1 HM HT HE ⊢
        obtain ⟨k, rfl⟩ := Int.eq_ofNat_of_zero_le p0
        rw [Int.toNat_natCast] at *
        have hsz := (unhide HE).1
        have u0 : 0 ≤ n3 := by omega
        have u1 : n3 < 10000 := by omega
        clear hdn
        go_wp2_with (first | (go_at_call 76; refine (unhide HM _ (unhide HE).2 _).mono ?_; rintro e w2 ⟨rfl, hb2⟩; have HY := hide (boxes3 hb2); clear hb2; obtain ⟨c0, c1, c2, f0, f1, f2, hs1, hbl⟩ := unhide HY; clear hbl hs1) | (go_at_call 77; refine (unhide HT _ (unhide HE).2 _).mono ?_; rintro e w3 ⟨rfl, hb3⟩; have HZ := hide (((unhide HY).put9 _ _ _ _ _ _ _ _ _).next hb3); clear hb3 c0 c1 c2 f0 f1 f2; obtain ⟨c0, c1, c2, f0, f1, f2, hs1, hbl⟩ := unhide HZ; clear hbl hs1))
        refine bodyPost_ret (v := .tuple #[StV.val ⟨n3 + 1, pc3, regs3, cells3, clock3, handler3, back3, pending3, halted3⟩, .string (p.extract (3 * k) (3 * k + 3)), .bool true]) (by simp [results, Tryz.results51, go_sem, c2]) rfl ⟨rfl, ?_⟩
        repeat (refine Below.setCell ?_ (by simp <;> omega) _)
        exact (unhide HZ).bel
end Go.Proofs.YtcmoffiigpchiaaGreat
