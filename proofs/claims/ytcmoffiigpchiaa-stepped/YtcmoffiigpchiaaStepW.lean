import Derived.Test.YtcmoffiigpchiaaRefuW
import Derived.Test.YtcmoffiigpchiaaDoW
import Derived.Test.YtcmoffiigpchiaaBase
namespace Go.Proofs.Ytcmoffiigpchiaa
open Go.RowKit

theorem Boxes3.set0 {w w1 : World} {ca cb cc : Array Value} (h : Boxes3 w w1 ca cb cc) (i : Nat) (v : Value) (hi : i < ca.size) : Boxes3 w (w1.setCell ⟨w.heap.size, i, none⟩ v) (ca.setIfInBounds i v) cb cc := by
  have hs := h.size
  refine ⟨fun o => ?_, fun o => ?_, fun o => ?_, fun o => ?_, fun o => ?_, fun o => ?_, ?_, h.bel.setCell (Nat.le_refl _) _⟩
  · by_cases e : i = o
    · subst e
      rw [World.cell?_setCell_same _ _ _ (h.c0 i ▸ Array.getElem?_eq_getElem hi)]
      simp [hi]
    · rw [World.cell?_setCell_other _ _ _ _ (by simp; try omega), h.c0 o]
      simp [e]
  · rw [World.cell?_setCell_other _ _ _ _ (by simp)]; exact h.c1 o
  · rw [World.cell?_setCell_other _ _ _ _ (by simp)]; exact h.c2 o
  · go_simp; exact h.f0 o
  · go_simp; exact h.f1 o
  · go_simp; exact h.f2 o
  · simpa using hs

abbrev cells9 (s : StV) : Array Value := #[.int .i64 s.n, .int .i64 s.pc, .string s.regs, .string s.cells, .int .i64 s.clock, .int .i64 s.handler, .int .i64 s.back, .bool s.pending, .bool s.halted]
abbrev cells3 (c : ChV) : Array Value := #[.int .i64 c.input, .int .i64 c.ticks, .bool c.interrupt]

theorem nine (a0 a1 a2 a3 a4 a5 a6 a7 a8 v0 v1 v2 v3 v4 v5 v6 v7 v8 : Value) :
    ((((((((#[a0, a1, a2, a3, a4, a5, a6, a7, a8].setIfInBounds 0 v0).setIfInBounds 1 v1).setIfInBounds 2 v2).setIfInBounds 3 v3).setIfInBounds 4 v4).setIfInBounds 5 v5).setIfInBounds 6 v6).setIfInBounds 7 v7).setIfInBounds 8 v8 = #[v0, v1, v2, v3, v4, v5, v6, v7, v8] := by
  simp
theorem Boxes3.put9 {w w1 : World} {cb cc : Array Value} {a0 a1 a2 a3 a4 a5 a6 a7 a8 : Value} (h : Boxes3 w w1 #[a0, a1, a2, a3, a4, a5, a6, a7, a8] cb cc) (v0 v1 v2 v3 v4 v5 v6 v7 v8 : Value) :
    Boxes3 w (((((((((w1.setCell ⟨w.heap.size, 0, none⟩ v0).setCell ⟨w.heap.size, 1, none⟩ v1).setCell ⟨w.heap.size, 2, none⟩ v2).setCell ⟨w.heap.size, 3, none⟩ v3).setCell ⟨w.heap.size, 4, none⟩ v4).setCell ⟨w.heap.size, 5, none⟩ v5).setCell ⟨w.heap.size, 6, none⟩ v6).setCell ⟨w.heap.size, 7, none⟩ v7).setCell ⟨w.heap.size, 8, none⟩ v8) #[v0, v1, v2, v3, v4, v5, v6, v7, v8] cb cc := by
  rw [← nine a0 a1 a2 a3 a4 a5 a6 a7 a8 v0 v1 v2 v3 v4 v5 v6 v7 v8]
  exact ((((((((h.set0 0 v0 (by simp)).set0 1 v1 (by simp)).set0 2 v2 (by simp)).set0 3 v3 (by simp)).set0 4 v4 (by simp)).set0 5 v5 (by simp)).set0 6 v6 (by simp)).set0 7 v7 (by simp)).set0 8 v8 (by simp)

set_option maxRecDepth 100000 in
set_option maxHeartbeats 1000000 in
theorem step_refused (p : ByteArray) (s : StV) (c : ChV) (hp : p.size ≤ maxLen) (hr : Mach.refusal p s c ≠ 0) (w : World) :
    Calls Try.prog 37 #[.string p, s.val, c.val] w fun e w' => e = .returned (.tuple #[Mach.zero.val, .int .i64 (Mach.refusal p s c)]) ∧ Below w.heap.size w w' := by
  have HR := hide (refusal_code p s c hp)
  have hr' : (Mach.refusal p s c != 0) = true := by simp [hr]
  clear hr
  generalize Mach.refusal p s c = rf at *
  obtain ⟨n, pc, regs, cells, clock, handler, back, pending, halted⟩ := s
  obtain ⟨input, ticks, interrupt⟩ := c
  go_enter Try.func37, Try.ntmps37
  go_wp2_with (go_at_call 54; refine (unhide HR _).mono ?_; rintro e w1 ⟨rfl, hb⟩; have HX := hide (boxes3 hb); clear hb; obtain ⟨c0, c1, c2, f0, f1, f2, hs1, hbl⟩ := unhide HX; clear hbl hs1)
  refine bodyPost_ret (v := .tuple #[Mach.zero.val, .int .i64 rf]) (by simp [results, Try.results37, go_sem, c2, Mach.zero]; rfl) rfl ⟨rfl, ?_⟩
  repeat (refine Below.setCell ?_ (by simp <;> omega) _)
  exact (unhide HX).bel

theorem Boxes3.alloc {w w1 : World} {ca cb cc : Array Value} (h : Boxes3 w w1 ca cb cc) (x : Obj) : Boxes3 w (w1.alloc x) ca cb cc :=
  h.next ((Below.refl _ _).alloc (Nat.le_refl _) x)

set_option maxRecDepth 100000 in
set_option maxHeartbeats 1000000 in
theorem step_none (p : ByteArray) (s : StV) (c : ChV) (hp : p.size ≤ maxLen) (hr : Mach.refusal p s c = 0) (hg : Mach.Good p) (hs : Mach.Legal s) (hc : Mach.Chosen c) (hn : s.n < 10000) (h : ¬ 3 * (Mach.arrive s c).pc.toNat < p.size) (w : World) :
    Calls Try.prog 37 #[.string p, s.val, c.val] w fun e w' => e = .returned (.tuple #[(Mach.next p s c).val, .int .i64 0]) ∧ Below w.heap.size w w' := by
  have HR := hide (refusal_code p s c hp)
  have HV := hide (arrive_code s c hs hc)
  have hl := Mach.arrive_legal hs hc
  have HT := hide (at_none p hg (Mach.arrive s c).pc hl.pc0 hl.pc1 h)
  have hn' : (Mach.arrive s c).n < 10000 := by rw [Mach.arrive_n]; exact hn
  have hnx : Mach.next p s c = ⟨(Mach.arrive s c).n + 1, (Mach.arrive s c).pc, (Mach.arrive s c).regs, (Mach.arrive s c).cells, (Mach.arrive s c).clock, (Mach.arrive s c).handler, (Mach.arrive s c).back, (Mach.arrive s c).pending, true⟩ := by
    unfold Mach.next Mach.exec
    simp only [h, if_false]
  rw [hr] at HR
  rw [hnx]
  clear hr hg hs hc hn h hnx
  generalize Mach.arrive s c = s' at *
  obtain ⟨n, pc, regs, cells, clock, handler, back, pending, halted⟩ := s
  obtain ⟨n', pc', regs', cells', clock', handler', back', pending', halted'⟩ := s'
  obtain ⟨input, ticks, interrupt⟩ := c
  obtain ⟨n0, n1, -, -, -, -, -, -, -, -, -, -⟩ := hl
  simp only at n0 n1 hn' HT ⊢
  go_enter Try.func37, Try.ntmps37
  go_wp2_with (first | (go_at_call 54; refine (unhide HR _).mono ?_; rintro e w1 ⟨rfl, hb⟩; have HX := hide (boxes3 hb); clear hb; obtain ⟨c0, c1, c2, f0, f1, f2, hs1, hbl⟩ := unhide HX; clear hbl hs1) | (go_at_call 55; refine (unhide HV _).mono ?_; rintro e w2 ⟨rfl, hb2⟩; have HY := hide ((unhide HX).next hb2); clear hb2 c0 c1 c2 f0 f1 f2; obtain ⟨c0, c1, c2, f0, f1, f2, hs1, hbl⟩ := unhide HY; clear hbl hs1) | (go_at_call 56; refine (unhide HT _).mono ?_; rintro e w3 ⟨rfl, hb3⟩; have HZ := hide (((unhide HY).put9 _ _ _ _ _ _ _ _ _).next hb3); clear hb3 c0 c1 c2 f0 f1 f2; obtain ⟨c0, c1, c2, f0, f1, f2, hs1, hbl⟩ := unhide HZ; have z0 : w.heap.size < w3.heap.size := (by omega); have z1 : w.heap.size + 1 < w3.heap.size := (by omega); have z2 : w.heap.size + 1 + 1 < w3.heap.size := (by omega); clear hbl hs1))
  refine bodyPost_ret (v := .tuple #[StV.val ⟨n' + 1, pc', regs', cells', clock', handler', back', pending', true⟩, .int .i64 0]) (by simp [results, Try.results37, go_sem, c2, z2]) rfl ⟨rfl, ?_⟩
  refine Below.alloc ?_ (by have := (unhide HZ).size; simp; omega) _
  repeat (refine Below.setCell ?_ (by simp <;> omega) _)
  exact (unhide HZ).bel
set_option maxRecDepth 100000 in
set_option maxHeartbeats 1000000 in
theorem step_found (p : ByteArray) (s : StV) (c : ChV) (hp : p.size ≤ maxLen) (hr : Mach.refusal p s c = 0) (hg : Mach.Good p) (hs : Mach.Legal s) (hc : Mach.Chosen c) (hn : s.n < 10000) (h : 3 * (Mach.arrive s c).pc.toNat < p.size) (w : World) :
    Calls Try.prog 37 #[.string p, s.val, c.val] w fun e w' => e = .returned (.tuple #[(Mach.next p s c).val, .int .i64 0]) ∧ Below w.heap.size w w' := by
  have HR := hide (refusal_code p s c hp)
  have HV := hide (arrive_code s c hs hc)
  have hl := Mach.arrive_legal hs hc
  have HT := hide (at_code p hg (Mach.arrive s c).pc hl.pc0 hl.pc1 h)
  have HD := hide (do_code _ _ _ (Mach.arrive s c) c.input (hg.fits h) hl hc.input0 hc.input1)
  have hn' : (Mach.arrive s c).n < 10000 := by rw [Mach.arrive_n]; exact hn
  have hdn : (Mach.doIns (Mach.op p (Mach.arrive s c).pc.toNat) (Mach.fst p (Mach.arrive s c).pc.toNat) (Mach.snd p (Mach.arrive s c).pc.toNat) (Mach.arrive s c) c.input).n = (Mach.arrive s c).n := Mach.doIns_n _ _ _ _ _
  have hnx : Mach.next p s c = { Mach.doIns (Mach.op p (Mach.arrive s c).pc.toNat) (Mach.fst p (Mach.arrive s c).pc.toNat) (Mach.snd p (Mach.arrive s c).pc.toNat) (Mach.arrive s c) c.input with n := (Mach.doIns (Mach.op p (Mach.arrive s c).pc.toNat) (Mach.fst p (Mach.arrive s c).pc.toNat) (Mach.snd p (Mach.arrive s c).pc.toNat) (Mach.arrive s c) c.input).n + 1 } := by
    unfold Mach.next Mach.exec
    simp only [h, if_true]
  rw [hr] at HR
  rw [hnx]
  clear hr hg hs hc hn h hnx
  generalize Mach.doIns (Mach.op p (Mach.arrive s c).pc.toNat) (Mach.fst p (Mach.arrive s c).pc.toNat) (Mach.snd p (Mach.arrive s c).pc.toNat) (Mach.arrive s c) c.input = s'' at *
  generalize Mach.op p (Mach.arrive s c).pc.toNat = o at *
  generalize Mach.fst p (Mach.arrive s c).pc.toNat = r at *
  generalize Mach.snd p (Mach.arrive s c).pc.toNat = t at *
  generalize Mach.arrive s c = s' at *
  obtain ⟨n, pc, regs, cells, clock, handler, back, pending, halted⟩ := s
  obtain ⟨n', pc', regs', cells', clock', handler', back', pending', halted'⟩ := s'
  obtain ⟨n2, pc2, regs2, cells2, clock2, handler2, back2, pending2, halted2⟩ := s''
  obtain ⟨input, ticks, interrupt⟩ := c
  obtain ⟨n0, n1, -, -, -, -, -, -, -, -, -, -⟩ := hl
  simp only at n0 n1 hn' hdn HT HD ⊢
  have m0 : 0 ≤ n2 := by omega
  have m1 : n2 < 10000 := by omega
  clear hdn
  go_enter Try.func37, Try.ntmps37
  go_wp2_with (first | (go_at_call 54; refine (unhide HR _).mono ?_; rintro e w1 ⟨rfl, hb⟩; have HX := hide (boxes3 hb); clear hb; obtain ⟨c0, c1, c2, f0, f1, f2, hs1, hbl⟩ := unhide HX; clear hbl hs1) | (go_at_call 55; refine (unhide HV _).mono ?_; rintro e w2 ⟨rfl, hb2⟩; have HY := hide ((unhide HX).next hb2); clear hb2 c0 c1 c2 f0 f1 f2; obtain ⟨c0, c1, c2, f0, f1, f2, hs1, hbl⟩ := unhide HY; clear hbl hs1) | (go_at_call 56; refine (unhide HT _).mono ?_; rintro e w3 ⟨rfl, hb3⟩; have HZ := hide (((unhide HY).put9 _ _ _ _ _ _ _ _ _).next hb3); clear hb3 c0 c1 c2 f0 f1 f2; obtain ⟨c0, c1, c2, f0, f1, f2, hs1, hbl⟩ := unhide HZ; have z0 : w.heap.size < w3.heap.size := (by omega); have z1 : w.heap.size + 1 < w3.heap.size := (by omega); have z2 : w.heap.size + 1 + 1 < w3.heap.size := (by omega); clear hbl hs1) | (go_at_call 57; refine (unhide HD _).mono ?_; rintro e w4 ⟨rfl, hb4⟩; have HU := hide (((unhide HZ).alloc _).next hb4); clear hb4 c0 c1 c2 f0 f1 f2; obtain ⟨c0, c1, c2, f0, f1, f2, hs1, hbl⟩ := unhide HU; clear hbl hs1))
  refine bodyPost_ret (v := .tuple #[StV.val ⟨n2 + 1, pc2, regs2, cells2, clock2, handler2, back2, pending2, halted2⟩, .int .i64 0]) (by simp [results, Try.results37, go_sem, c2]) rfl ⟨rfl, ?_⟩
  repeat (refine Below.setCell ?_ (by simp <;> omega) _)
  exact (unhide HU).bel

theorem step_code (p : ByteArray) (s : StV) (c : ChV) (hp : p.size ≤ maxLen) (w : World) :
    Calls Try.prog 37 #[.string p, s.val, c.val] w fun e w' => e = .returned (.tuple #[(Mach.step p s c).1.val, .int .i64 (Mach.step p s c).2]) ∧ Below w.heap.size w w' := by
  by_cases hr : Mach.refusal p s c = 0
  · have hst : Mach.step p s c = (Mach.next p s c, 0) := by simp [Mach.step, hr]
    rw [hst]
    obtain ⟨hg, hs, hc, hh⟩ := Mach.refusal_zero hr
    by_cases h : 3 * (Mach.arrive s c).pc.toNat < p.size
    · exact step_found p s c hp hr hg hs hc hh.2 h w
    · exact step_none p s c hp hr hg hs hc hh.2 h w
  · have hst : Mach.step p s c = (Mach.zero, Mach.refusal p s c) := by simp [Mach.step, hr]
    rw [hst]
    exact step_refused p s c hp hr w

set_option maxHeartbeats 400000 in
theorem step_api (p : ByteArray) (s : StV) (c : ChV) (hp : p.size ≤ maxLen) (w : World) :
    Calls Try.prog 27 #[.string p, s.val, c.val] w fun e w' => e = .returned (.tuple #[(Mach.step p s c).1.val, .int .i64 (Mach.step p s c).2]) ∧ Below w.heap.size w w' := by
  have HS := hide (step_code p s c hp)
  generalize Mach.step p s c = q at *
  obtain ⟨⟨n', pc', regs', cells', clock', handler', back', pending', halted'⟩, f⟩ := q
  obtain ⟨n, pc, regs, cells, clock, handler, back, pending, halted⟩ := s
  obtain ⟨input, ticks, interrupt⟩ := c
  simp only
  go_enter Try.func27, Try.ntmps27
  go_wp2_with (go_at_call 37; refine (unhide HS _).mono ?_; rintro e w1 ⟨rfl, hb⟩; have HX := hide (boxes3 hb); clear hb; obtain ⟨c0, c1, c2, f0, f1, f2, hs1, hbl⟩ := unhide HX; clear hbl hs1)
  refine bodyPost_ret (v := .tuple #[StV.val ⟨n', pc', regs', cells', clock', handler', back', pending', halted'⟩, .int .i64 f]) (by simp [results, Try.results27, go_sem, c2]) rfl ⟨rfl, ?_⟩
  repeat (refine Below.setCell ?_ (by simp <;> omega) _)
  exact (unhide HX).bel
end Go.Proofs.Ytcmoffiigpchiaa
