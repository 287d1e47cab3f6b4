import Derived.Test.YtcmoffiigpchiaaGreatStepRA
import Derived.Test.YtcmoffiigpchiaaGreatSaveR
namespace Go.Proofs.YtcmoffiigpchiaaGreat
open Go.RowKit

theorem RefAt.keeps {w w' : World} {b g cap : Nat} {m : RM} (h : RefAt w b g cap m) (k : Below w.heap.size w w') : RefAt w' b g cap m :=
  ⟨h.box.next k, own_block h.own (k.block g (own_lt h.own)), h.ne⟩
theorem fifteen (a0 a1 a2 a3 a4 a5 a6 a7 a8 a9 a10 a11 a12 a13 a14 v0 v1 v2 v3 v4 v5 v6 v7 v8 : Value) :
    ((((((((#[a0, a1, a2, a3, a4, a5, a6, a7, a8, a9, a10, a11, a12, a13, a14].setIfInBounds 3 v0).setIfInBounds 4 v1).setIfInBounds 5 v2).setIfInBounds 6 v3).setIfInBounds 7 v4).setIfInBounds 8 v5).setIfInBounds 9 v6).setIfInBounds 10 v7).setIfInBounds 11 v8 = #[a0, a1, a2, v0, v1, v2, v3, v4, v5, v6, v7, v8, a12, a13, a14] := by
  simp
theorem heap_set9 (w : World) (b g : Nat) (h : g ≠ b) (v0 v1 v2 v3 v4 v5 v6 v7 v8 : Value) :
    (((((((((w.setCell ⟨b, 3, none⟩ v0).setCell ⟨b, 4, none⟩ v1).setCell ⟨b, 5, none⟩ v2).setCell ⟨b, 6, none⟩ v3).setCell ⟨b, 7, none⟩ v4).setCell ⟨b, 8, none⟩ v5).setCell ⟨b, 9, none⟩ v6).setCell ⟨b, 10, none⟩ v7).setCell ⟨b, 11, none⟩ v8).heap[g]? = w.heap[g]? := by
  rw [Below.heap_setCell _ _ _ _ h, Below.heap_setCell _ _ _ _ h, Below.heap_setCell _ _ _ _ h, Below.heap_setCell _ _ _ _ h, Below.heap_setCell _ _ _ _ h, Below.heap_setCell _ _ _ _ h, Below.heap_setCell _ _ _ _ h, Below.heap_setCell _ _ _ _ h, Below.heap_setCell _ _ _ _ h]
/-- The state is written into the machine. -/
theorem RefAt.setS {w : World} {b g cap : Nat} {m : RM} (h : RefAt w b g cap m) (s : StV) :
    RefAt (((((((((w.setCell ⟨b, 3, none⟩ (.int .i64 s.n)).setCell ⟨b, 4, none⟩ (.int .i64 s.pc)).setCell ⟨b, 5, none⟩ (.string s.regs)).setCell ⟨b, 6, none⟩ (.string s.cells)).setCell ⟨b, 7, none⟩ (.int .i64 s.clock)).setCell ⟨b, 8, none⟩ (.int .i64 s.handler)).setCell ⟨b, 9, none⟩ (.int .i64 s.back)).setCell ⟨b, 10, none⟩ (.bool s.pending)).setCell ⟨b, 11, none⟩ (.bool s.halted)) b g cap { m with s := s } := by
  refine ⟨?_, own_block h.own (heap_set9 w b g (fun e => h.ne e.symm) _ _ _ _ _ _ _ _ _), h.ne⟩
  have := ((((((((h.box.set 3 (.int .i64 s.n) (by simp)).set 4 (.int .i64 s.pc) (by simp)).set 5 (.string s.regs) (by simp)).set 6 (.string s.cells) (by simp)).set 7 (.int .i64 s.clock) (by simp)).set 8 (.int .i64 s.handler) (by simp)).set 9 (.int .i64 s.back) (by simp)).set 10 (.bool s.pending) (by simp)).set 11 (.bool s.halted) (by simp)
  rw [fifteen] at this
  exact this
theorem went_ok {m : RM} {c : ChV} (hm : m.Ok) (hc : Mach.Chosen c) (hn : m.s.n < 10000) : ({ m with s := Mach.next m.p m.s c } : RM).Ok := by
  have hnn := Mach.next_n m.p m.s c
  obtain ⟨good, r0, r1, q0, q1, lg, f1, fr, l0, l1, sz, kp⟩ := hm
  exact ⟨good, r0, r1, q0, q1, Mach.next_legal good lg hc hn, f1, fr, l0, by simp only; omega, sz, kp⟩

theorem RefAt.keepsK {w w' : World} {b g cap : Nat} {m : RM} {o : List Nat} (h : RefAt w b g cap m) (k : Keeps w w' o) (hb : b ∉ o) (hg : g ∉ o) : RefAt w' b g cap m :=
  ⟨h.box.keeps k hb, own_block h.own (k.block g (own_lt h.own) hg), h.ne⟩
theorem keeps9 (w : World) (x : Nat) (v0 v1 v2 v3 v4 v5 v6 v7 v8 : Value) : Keeps w (((((((((w.setCell ⟨x, 0, none⟩ v0).setCell ⟨x, 1, none⟩ v1).setCell ⟨x, 2, none⟩ v2).setCell ⟨x, 3, none⟩ v3).setCell ⟨x, 4, none⟩ v4).setCell ⟨x, 5, none⟩ v5).setCell ⟨x, 6, none⟩ v6).setCell ⟨x, 7, none⟩ v7).setCell ⟨x, 8, none⟩ v8) [x] := by
  repeat (refine Keeps.setCell ?_ (by simp) _)
  exact Keeps.refl _ _
/-- What is done where the choice did not count. -/
theorem ask_facts {p : ByteArray} {s : StV} {c : ChV} (g : Mach.Good p) (h : RM.counts p s c = false) :
    c.interrupt = false ∧ c.ticks = 0 ∧ ((insOf p s c).toList.isEmpty = true ∨ (0 < (insOf p s c).size ∧ (insOf p s c).toList.isEmpty = false ∧ (Code.byt (insOf p s c) 0 = 63 → c.input = 0))) := by
  simp [RM.counts] at h
  obtain ⟨⟨h1, h2⟩, h3⟩ := h
  refine ⟨h1, h2, ?_⟩
  unfold insOf
  split
  · rename_i hp
    obtain ⟨_, hi⟩ := isIns_extract g hp
    right
    refine ⟨by rw [hi.size]; omega, ?_, fun e => ?_⟩
    · have hs := hi.size
      generalize p.extract (3 * (Mach.arrive s c).pc.toNat) (3 * (Mach.arrive s c).pc.toNat + 3) = x at *
      cases hx : x.toList.isEmpty with
      | false => rfl
      | true =>
        exfalso
        have hl : x.data.toList = [] := by rw [ByteArray.toList_eq] at hx; simpa using hx
        have hz : x.data.toList.length = x.size := by rw [Array.length_toList]; rfl
        rw [hl] at hz
        simp at hz
        omega
    · exact h3 (by simp [RM.asks, hp]; rw [← hi.b0]; exact e)
  · left
    rw [ByteArray.toList_eq]
    rfl

end Go.Proofs.YtcmoffiigpchiaaGreat
