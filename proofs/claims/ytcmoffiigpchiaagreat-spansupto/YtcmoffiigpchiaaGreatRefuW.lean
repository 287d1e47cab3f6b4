import Derived.Test.YtcmoffiigpchiaaGreatStP
import Derived.Test.YtcmoffiigpchiaaGreatCheckW
namespace Go.Proofs.YtcmoffiigpchiaaGreat
open Go.RowKit

theorem kind1_code (op : Nat) (w : World) : Calls Tryz.prog 70 #[.int .u8 op, .int .i64 1] w fun e w' => e = .returned (.int .i64 (Code.sec op)) ∧ w' = w := kind_code op 1 (by omega) w
theorem kind2_code (op : Nat) (w : World) : Calls Tryz.prog 70 #[.int .u8 op, .int .i64 2] w fun e w' => e = .returned (.int .i64 (Code.thr op)) ∧ w' = w := kind_code op 2 (by omega) w

set_option maxRecDepth 100000 in
set_option maxHeartbeats 1000000 in
theorem at_code (p : ByteArray) (hp : Mach.Good p) (pc : Int) (h0 : 0 ≤ pc) (h1 : pc ≤ 32) (h : 3 * pc.toNat < p.size) (w : World) :
    Calls Tryz.prog 74 #[.string p, .int .i64 pc] w fun e w' => e = .returned (.tuple #[insVal (Mach.op p pc.toNat) (Mach.fst p pc.toNat) (Mach.snd p pc.toNat), .bool true]) ∧ Below w.heap.size w w' := by
  obtain ⟨k, rfl⟩ := Int.eq_ofNat_of_zero_le h0
  rw [Int.toNat_natCast] at *
  have hsh := hp.short
  have hwh := hp.whole
  have n1 := Mach.num_sec (hp.sign h) (hp.second h)
  have n2 := Mach.num_thr (hp.sign h) (hp.third h)
  have l1 := Code.byt_lt p (3 * k + 1)
  have l2 := Code.byt_lt p (3 * k + 2)
  have b0 := Code.byt_eq p (k * 3) (by omega)
  have b1 := Code.byt_eq p (k * 3 + 1) (by omega)
  have b2 := Code.byt_eq p (k * 3 + 2) (by omega)
  rw [show Code.byt p (k * 3) = Mach.op p k by unfold Mach.op; rw [Nat.mul_comm]] at b0
  rw [show Code.byt p (k * 3 + 1) = Code.byt p (3 * k + 1) by rw [Nat.mul_comm]] at b1
  rw [show Code.byt p (k * 3 + 2) = Code.byt p (3 * k + 2) by rw [Nat.mul_comm]] at b2
  have e1 : Mach.val (Code.cls2 (Mach.op p k)) (Code.byt p (3 * k + 1)) = Mach.fst p k := rfl
  have e2 : Mach.val (Code.cls3 (Mach.op p k)) (Code.byt p (3 * k + 2)) = Mach.snd p k := rfl
  rw [e1] at n1
  rw [e2] at n2
  clear e1 e2
  generalize Mach.op p k = o at *
  generalize Mach.fst p k = r at *
  generalize Mach.snd p k = t at *
  have hd : (k : Int) < (p.size : Int) / 3 := by omega
  go_enter Tryz.func74, Tryz.ntmps74
  go_wp2_with fail
  refine (kind1_code _ _).mono ?_
  rintro e w' ⟨rfl, rfl⟩
  go_wp2_with (go_at_call 71; refine (number_code _ _ (by omega) _).mono ?_; rintro e w' ⟨rfl, rfl⟩)
  refine (kind2_code _ _).mono ?_
  rintro e w' ⟨rfl, rfl⟩
  go_wp2_with (go_at_call 71; refine (number_code _ _ (by omega) _).mono ?_; rintro e w' ⟨rfl, rfl⟩)
  exact bodyPost_ret (v := .tuple #[insVal o r t, .bool true]) (by simp [results, Tryz.results74, go_sem]) rfl ⟨rfl, bel2⟩

set_option maxRecDepth 100000 in
set_option maxHeartbeats 1000000 in
theorem at_none (p : ByteArray) (hp : Mach.Good p) (pc : Int) (h0 : 0 ≤ pc) (h1 : pc ≤ 32) (h : ¬ 3 * pc.toNat < p.size) (w : World) :
    Calls Tryz.prog 74 #[.string p, .int .i64 pc] w fun e w' => e = .returned (.tuple #[insVal 0 0 0, .bool false]) ∧ Below w.heap.size w w' := by
  obtain ⟨k, rfl⟩ := Int.eq_ofNat_of_zero_le h0
  rw [Int.toNat_natCast] at *
  have hsh := hp.short
  have hwh := hp.whole
  have hd : (p.size : Int) / 3 ≤ (k : Int) := by omega
  go_enter Tryz.func74, Tryz.ntmps74
  go_wp2
  exact bodyPost_ret (v := .tuple #[insVal 0 0 0, .bool false]) (by simp [results, Tryz.results74, go_sem]) rfl ⟨rfl, (Below.refl _ _).alloc (Nat.le_refl _) _⟩

end Go.Proofs.YtcmoffiigpchiaaGreat

namespace Go.Proofs.YtcmoffiigpchiaaGreat
open Go.RowKit

/-- TWO BOXES that were made one behind the other, as a later world holds them. -/
structure Boxes2 (w w1 : World) (ca cb : Array Value) : Prop where
  c0 : ∀ o, w1.cell? ⟨w.heap.size, o, none⟩ = ca[o]?
  c1 : ∀ o, w1.cell? ⟨w.heap.size + 1, o, none⟩ = cb[o]?
  f0 : ∀ o, w1.frozen? ⟨w.heap.size, o, none⟩ = false
  f1 : ∀ o, w1.frozen? ⟨w.heap.size + 1, o, none⟩ = false
  size : w.heap.size + 1 < w1.heap.size
  bel : Below w.heap.size w w1
theorem boxes2 {w w1 : World} {ca cb : Array Value} {ta tb : TypeId} (hb : Below ((w.alloc (.cells ca ta)).alloc (.cells cb tb)).heap.size ((w.alloc (.cells ca ta)).alloc (.cells cb tb)) w1) : Boxes2 w w1 ca cb := by
  have hs := hb.size
  simp at hs
  refine ⟨fun o => ?_, fun o => ?_, fun o => ?_, fun o => ?_, by omega, bel2.trans (hb.mono (by simp; omega))⟩
  · rw [hb.cell (p := ⟨w.heap.size, o, none⟩) (by simp; omega)]; go_simp
  · rw [hb.cell (p := ⟨w.heap.size + 1, o, none⟩) (by simp)]; go_simp
  · rw [hb.frozen (p := ⟨w.heap.size, o, none⟩) (by simp; omega)]; go_simp
  · rw [hb.frozen (p := ⟨w.heap.size + 1, o, none⟩) (by simp)]; go_simp
theorem Boxes2.next {w w1 w2 : World} {ca cb : Array Value} (h : Boxes2 w w1 ca cb) (hb : Below w1.heap.size w1 w2) : Boxes2 w w2 ca cb := by
  have hs := h.size
  refine ⟨fun o => ?_, fun o => ?_, fun o => ?_, fun o => ?_, by have := hb.size; omega, h.bel.trans (hb.mono (by omega))⟩
  · rw [hb.cell (p := ⟨w.heap.size, o, none⟩) (by show w.heap.size < _; omega)]; exact h.c0 o
  · rw [hb.cell (p := ⟨w.heap.size + 1, o, none⟩) (by show w.heap.size + 1 < _; omega)]; exact h.c1 o
  · rw [hb.frozen (p := ⟨w.heap.size, o, none⟩) (by show w.heap.size < _; omega)]; exact h.f0 o
  · rw [hb.frozen (p := ⟨w.heap.size + 1, o, none⟩) (by show w.heap.size + 1 < _; omega)]; exact h.f1 o

set_option maxRecDepth 100000 in
set_option maxHeartbeats 1000000 in
theorem refusal_code (p : ByteArray) (s : StV) (c : ChV) (hp : p.size ≤ maxLen) (w : World) :
    Calls Tryz.prog 72 #[.string p, s.val, c.val] w fun e w' => e = .returned (.int .i64 (Mach.refusal p s c)) ∧ Below w.heap.size w w' := by
  have hl := isState_code s
  have hc := isChoice_code c
  have hr : Mach.refusal p s c = if (Code.chk p).1 ≠ 0 then (Code.chk p).1 else if Mach.legal s = false then 4 else if Mach.chosen c = false then 3 else if s.halted = true ∨ 10000 ≤ s.n then 5 else 0 := rfl
  have HR := hide hr
  have HL := hide hl
  have HC := hide hc
  clear hr hl hc
  generalize Mach.legal s = lg at *
  generalize Mach.chosen c = ch at *
  generalize Mach.refusal p s c = rf at *
  obtain ⟨n, pc, regs, cells, clock, handler, back, pending, halted⟩ := s
  obtain ⟨input, ticks, interrupt⟩ := c
  simp only at HR
  by_cases h1 : (Code.chk p).1 = 0
  · have h1' : ((Code.chk p).1 != 0) = false := by simp [h1]
    cases lg with
    | false =>
      have e : rf = 4 := by rw [unhide HR]; simp [h1]
      subst e
      clear HR h1
      go_enter Tryz.func72, Tryz.ntmps72
      go_wp2_with (first | (go_at_call 46; refine (check_code _ _ hp).mono ?_; rintro e w' ⟨rfl, rfl⟩) | (go_at_call 100; refine (unhide HL _).mono ?_; rintro e w1 ⟨rfl, hb⟩; have HX := hide (boxes2 hb); clear hb; obtain ⟨c0, c1, f0, f1, hs1, hbl⟩ := unhide HX; clear hbl hs1) | (go_at_call 101; refine (unhide HC _).mono ?_; rintro e w2 ⟨rfl, hb2⟩; have HY := hide ((unhide HX).next hb2); clear hb2 c0 c1 f0 f1; obtain ⟨c0, c1, f0, f1, hs1, hbl⟩ := unhide HY; clear hbl hs1))
      go_ret
      exact ⟨rfl, (unhide HX).bel⟩
    | true =>
      cases ch with
      | false =>
        have e : rf = 3 := by rw [unhide HR]; simp [h1]
        subst e
        clear HR h1
        go_enter Tryz.func72, Tryz.ntmps72
        go_wp2_with (first | (go_at_call 46; refine (check_code _ _ hp).mono ?_; rintro e w' ⟨rfl, rfl⟩) | (go_at_call 100; refine (unhide HL _).mono ?_; rintro e w1 ⟨rfl, hb⟩; have HX := hide (boxes2 hb); clear hb; obtain ⟨c0, c1, f0, f1, hs1, hbl⟩ := unhide HX; clear hbl hs1) | (go_at_call 101; refine (unhide HC _).mono ?_; rintro e w2 ⟨rfl, hb2⟩; have HY := hide ((unhide HX).next hb2); clear hb2 c0 c1 f0 f1; obtain ⟨c0, c1, f0, f1, hs1, hbl⟩ := unhide HY; clear hbl hs1))
        go_ret
        exact ⟨rfl, (unhide HY).bel⟩
      | true =>
        cases halted with
        | true =>
          have e : rf = 5 := by rw [unhide HR]; simp [h1]
          subst e
          clear HR h1
          go_enter Tryz.func72, Tryz.ntmps72
          go_wp2_with (first | (go_at_call 46; refine (check_code _ _ hp).mono ?_; rintro e w' ⟨rfl, rfl⟩) | (go_at_call 100; refine (unhide HL _).mono ?_; rintro e w1 ⟨rfl, hb⟩; have HX := hide (boxes2 hb); clear hb; obtain ⟨c0, c1, f0, f1, hs1, hbl⟩ := unhide HX; clear hbl hs1) | (go_at_call 101; refine (unhide HC _).mono ?_; rintro e w2 ⟨rfl, hb2⟩; have HY := hide ((unhide HX).next hb2); clear hb2 c0 c1 f0 f1; obtain ⟨c0, c1, f0, f1, hs1, hbl⟩ := unhide HY; clear hbl hs1))
          go_ret
          exact ⟨rfl, (unhide HY).bel⟩
        | false =>
          by_cases hn : 10000 ≤ n
          · have e : rf = 5 := by rw [unhide HR]; simp [h1, hn]
            subst e
            clear HR h1
            go_enter Tryz.func72, Tryz.ntmps72
            go_wp2_with (first | (go_at_call 46; refine (check_code _ _ hp).mono ?_; rintro e w' ⟨rfl, rfl⟩) | (go_at_call 100; refine (unhide HL _).mono ?_; rintro e w1 ⟨rfl, hb⟩; have HX := hide (boxes2 hb); clear hb; obtain ⟨c0, c1, f0, f1, hs1, hbl⟩ := unhide HX; clear hbl hs1) | (go_at_call 101; refine (unhide HC _).mono ?_; rintro e w2 ⟨rfl, hb2⟩; have HY := hide ((unhide HX).next hb2); clear hb2 c0 c1 f0 f1; obtain ⟨c0, c1, f0, f1, hs1, hbl⟩ := unhide HY; clear hbl hs1))
            go_ret
            exact ⟨rfl, (unhide HY).bel⟩
          · have e : rf = 0 := by rw [unhide HR]; simp [h1, hn]
            subst e
            clear HR h1
            go_enter Tryz.func72, Tryz.ntmps72
            go_wp2_with (first | (go_at_call 46; refine (check_code _ _ hp).mono ?_; rintro e w' ⟨rfl, rfl⟩) | (go_at_call 100; refine (unhide HL _).mono ?_; rintro e w1 ⟨rfl, hb⟩; have HX := hide (boxes2 hb); clear hb; obtain ⟨c0, c1, f0, f1, hs1, hbl⟩ := unhide HX; clear hbl hs1) | (go_at_call 101; refine (unhide HC _).mono ?_; rintro e w2 ⟨rfl, hb2⟩; have HY := hide ((unhide HX).next hb2); clear hb2 c0 c1 f0 f1; obtain ⟨c0, c1, f0, f1, hs1, hbl⟩ := unhide HY; clear hbl hs1))
            go_ret
            exact ⟨rfl, (unhide HY).bel⟩
  · have h1' : ((Code.chk p).1 != 0) = true := by simp [h1]
    have e : rf = (Code.chk p).1 := by rw [unhide HR, if_pos h1]
    subst e
    clear HR h1
    go_enter Tryz.func72, Tryz.ntmps72
    go_wp2_with (go_at_call 46; refine (check_code _ _ hp).mono ?_; rintro e w' ⟨rfl, rfl⟩)
    go_ret
    exact ⟨rfl, bel2⟩
end Go.Proofs.YtcmoffiigpchiaaGreat
