import Derived.Test.YtcmoffiigpchiaaGreatBase
import Derived.Test.YtcmoffiigpchiaaGreatOneW
import Derived.Laws.AppendOwn
import Derived.Deep.QuietTactic
import Derived.BigQuiet
namespace Go.Proofs.YtcmoffiigpchiaaGreat
open Go.RowKit

abbrev RM.cells (m : RM) (v : Value) : Array Value := #[.string m.p, .int .i64 m.room, .int .i64 m.period, .int .i64 m.s.n, .int .i64 m.s.pc, .string m.s.regs, .string m.s.cells, .int .i64 m.s.clock, .int .i64 m.s.handler, .int .i64 m.s.back, .bool m.s.pending, .bool m.s.halted, v, .int .i64 m.from_, .int .i64 m.last]

/-- The document's machine, as it lies: the struct at block b, its frames in block g. -/
structure RefAt (w : World) (b g cap : Nat) (m : RM) : Prop where
  box : Box w b (m.cells (.slice (some ⟨g, 0, none⟩) m.all.length cap))
  own : w.ownsRow 0 9 1 (.slice (some ⟨g, 0, none⟩) m.all.length cap) m.all.length (m.all.map Value.string)
  ne : b ≠ g

theorem own_cell {w : World} {g cap : Nat} {xs : List ByteArray} {n : Nat} (h : w.ownsRow 0 9 1 (.slice (some ⟨g, 0, none⟩) n cap) n (xs.map Value.string)) (j : Nat) (hj : j < xs.length) : w.cell? ⟨g, j, none⟩ = some (.string (xs.getD j ⟨#[]⟩)) := by
  obtain ⟨hl, hr⟩ := h
  rcases hr with ⟨hv, _⟩ | ⟨g', cap', cur, hv, _, hg, _, _, hcs, ht⟩
  · simp at hv
  · simp at hv
    obtain ⟨rfl, rfl⟩ := hv
    rw [cell_of_row w g j cur _ _ hg]
    rw [Nat.mul_one] at ht
    have hlen : xs.length = n := by simpa using hl
    have h1 : (cur.toList.take n)[j]? = (xs.map Value.string)[j]? := by rw [ht]
    rw [List.getElem?_take_of_lt (by omega)] at h1
    rw [← Array.getElem?_toList, h1]
    simp [List.getD, hj]

theorem own_block {w w' : World} {e : TypeId} {g cap n : Nat} {xs : List Value} (h : w.ownsRow 0 e 1 (.slice (some ⟨g, 0, none⟩) n cap) n xs) (hb : w'.heap[g]? = w.heap[g]?) : w'.ownsRow 0 e 1 (.slice (some ⟨g, 0, none⟩) n cap) n xs := by
  obtain ⟨hl, hr⟩ := h
  refine ⟨hl, ?_⟩
  rcases hr with hv | ⟨g', cap', cur, hv, h0, hg, h1, h2, h3, h4⟩
  · exact .inl hv
  · simp at hv
    obtain ⟨rfl, rfl⟩ := hv
    exact .inr ⟨g, cap, cur, rfl, h0, by rw [hb]; exact hg, h1, h2, h3, h4⟩
theorem RefAt.drewN {w : World} {b g cap : Nat} {m : RM} (h : RefAt w b g cap m) (n : Nat) : RefAt (w.drewN n) b g cap m := ⟨h.box.drewN n, own_block h.own rfl, h.ne⟩
theorem RefAt.setFrom {w : World} {b g cap : Nat} {m : RM} (h : RefAt w b g cap m) (j : Nat) : RefAt (w.setCell ⟨b, 13, none⟩ (.int .i64 j)) b g cap { m with from_ := j } := by
  refine ⟨?_, own_block h.own (Below.heap_setCell w ⟨b, 13, none⟩ _ g (fun e => h.ne e.symm)), h.ne⟩
  have := h.box.set 13 (.int .i64 j) (by simp)
  simpa using this

set_option maxRecDepth 100000 in
set_option maxHeartbeats 2000000 in
theorem place_ref (b g cap : Nat) (m : RM) (hm : m.Ok) (w : World) (h : RefAt w b g cap m) :
    Calls Tryz.prog 67 #[.pointer (some ⟨b, 0, none⟩)] w fun e w' => e = .returned (.bool (RM.place m).2) ∧ RefAt w' b g cap (RM.place m).1 ∧ Keeps w w' [b] := by
  have H := hide h
  obtain ⟨⟨c, f, lt⟩, own, ne⟩ := h
  have HO := hide (own_cell own)
  clear own
  obtain ⟨good, r0, r1, q0, q1, lg, f1, fr, l0, l1, sz, kp⟩ := hm
  obtain ⟨p, room, period, ⟨n, pc, regs, cells, clock, handler, back, pending, halted⟩, all, from_, last⟩ := m
  simp only at r0 r1 q0 q1 f1 fr l0 l1 sz c HO
  have HF := hide fr
  clear good lg fr
  by_cases hroom : (all.length : Int) - from_ < room
  · have hpl : Hid (RM.place ⟨p, room, period, ⟨n, pc, regs, cells, clock, handler, back, pending, halted⟩, all, from_, last⟩ = (⟨p, room, period, ⟨n, pc, regs, cells, clock, handler, back, pending, halted⟩, all, from_, last⟩, false)) := by
      show _ = _
      simp [RM.place, hroom]
    have qw : IntKind.i64.wrap ((all.length : Int) - (from_ : Int)) = (all.length : Int) - (from_ : Int) := by
      have := i64_wrap_nat (all.length - from_) (by omega)
      rwa [show ((all.length - from_ : Nat) : Int) = (all.length : Int) - (from_ : Int) by omega] at this
    go_enter Tryz.func67, Tryz.ntmps67
    go_wp2
    go_quiet (fail)
    go_wp2
    go_ret
    rw [hpl.out]
    exact ⟨rfl, (unhide H).drewN _, (Keeps.refl _ _).drewN _⟩
  · have qw : IntKind.i64.wrap ((all.length : Int) - (from_ : Int)) = (all.length : Int) - (from_ : Int) := by
      have := i64_wrap_nat (all.length - from_) (by omega)
      rwa [show ((all.length - from_ : Nat) : Int) = (all.length : Int) - (from_ : Int) by omega] at this
    have HP : Hid (∀ r, RM.firstC all (from_ + 1) = r → RM.place ⟨p, room, period, ⟨n, pc, regs, cells, clock, handler, back, pending, halted⟩, all, from_, last⟩ = (match r with | some j => (⟨p, room, period, ⟨n, pc, regs, cells, clock, handler, back, pending, halted⟩, all, j, last⟩, false) | none => (⟨p, room, period, ⟨n, pc, regs, cells, clock, handler, back, pending, halted⟩, all, all.length, last⟩, true))) := by
      rintro r rfl
      simp only [RM.place, hroom, if_false]
      cases RM.firstC all (from_ + 1) <;> rfl
    go_enter Tryz.func67, Tryz.ntmps67
    go_wp2
    go_quiet (fail)
    go_wp2
    go_loop [3] (fun i => ∃ k : Nat, from_ + 1 ≤ k ∧ k ≤ all.length + 1 ∧ i = .int .i64 k ∧ ∀ j, from_ + 1 ≤ j → j < k → j < all.length → RM.nthC all j = false) (fun i => all.length + 1 - (intOf i).toNat)
    case atStart => exact ⟨from_ + 1, Nat.le_refl _, by omega, by go_num, fun j h1 h2 => absurd h1 (by omega)⟩
    case round =>
      obtain ⟨k, hk1, hk2, rfl, hno⟩ := hrel
      have HN := hide hno
      clear hno
      by_cases hlt : k < all.length
      · have ck := unhide HO k hlt
        have fz : (all.getD k ⟨#[]⟩).size = 40 := unhide HF _ (by simp [List.getD, hlt])
        have HC : Hid (RM.nthC all k = decide (Code.byt (all.getD k ⟨#[]⟩) 0 = 67)) := rfl
        generalize all.getD k ⟨#[]⟩ = fk at *
        have b0 := Code.byt_eq fk 0 (by omega)
        by_cases hc : Code.byt fk 0 = 67
        · have d : ((Code.byt fk 0 : Int) == 67) = true := by simp [hc]
          have HC2 := hide hc
          clear hc
          go_wp2
          go_ret
          rw [unhide HP _ (RM.firstC_here hk1 hlt (by rw [HC.out]; simp [unhide HC2]) (fun j h1 h2 => unhide HN j h1 h2 (by omega)))]
          exact ⟨rfl, ((unhide H).drewN _).setFrom k, ((Keeps.refl _ _).drewN _).setCell (by simp) _⟩
        · have d : ((Code.byt fk 0 : Int) == 67) = false := by simp; omega
          have HC2 := hide hc
          clear hc
          go_wp2
          go_round
          case rel => exact ⟨k + 1, by omega, by omega, by go_num, fun j h1 h2 h3 => by
                        rcases Nat.lt_succ_iff_lt_or_eq.1 h2 with h | h
                        · exact unhide HN j h1 h h3
                        · rw [h, HC.out]; simp [unhide HC2]⟩
          case measure => simp [intOf]; omega
      · go_wp2
        go_ret
        rw [unhide HP _ (RM.firstC_none (fun j h1 h2 => unhide HN j h1 (by omega) h2))]
        exact ⟨rfl, ((unhide H).drewN _).setFrom all.length, ((Keeps.refl _ _).drewN _).setCell (by simp) _⟩
end Go.Proofs.YtcmoffiigpchiaaGreat

namespace Go.Proofs.YtcmoffiigpchiaaGreat
open Go.RowKit

set_option maxRecDepth 100000 in
set_option maxHeartbeats 2000000 in
theorem trace_ref (b g cap : Nat) (m : RM) (hm : m.Ok) (w : World) (h : RefAt w b g cap m) :
    Calls Tryz.prog 45 #[.pointer (some ⟨b, 0, none⟩)] w fun e w' => e = .returned (.string (RM.traceOf m)) ∧ w' = w := by
  obtain ⟨⟨c, f, lt⟩, own, ne⟩ := h
  have HO := hide (own_cell own)
  clear own
  obtain ⟨good, r0, r1, q0, q1, lg, f1, fr, l0, l1, sz, kp⟩ := hm
  obtain ⟨p, room, period, ⟨n, pc, regs, cells, clock, handler, back, pending, halted⟩, all, from_, last⟩ := m
  simp only at r0 r1 q0 q1 f1 fr l0 l1 sz kp c HO
  have HF := hide fr
  clear good lg fr
  go_enter Tryz.func45, Tryz.ntmps45
  go_wp2
  go_loop [3, 4] (fun t i => ∃ k : Nat, from_ ≤ k ∧ k ≤ all.length ∧ i = .int .i64 k ∧ t = .string (RM.joined ((all.drop from_).take (k - from_)))) (fun _ i => all.length - (intOf i).toNat)
  case atStart => exact ⟨from_, Nat.le_refl _, f1, rfl, by rw [Nat.sub_self]; rfl⟩
  case round =>
    obtain ⟨k, hk1, hk2, rfl, rfl⟩ := hrel
    by_cases hlt : k < all.length
    · have ck := unhide HO k hlt
      have fz : (all.getD k ⟨#[]⟩).size = 40 := unhide HF _ (by simp [List.getD, hlt])
      have HS : Hid (RM.joined ((all.drop from_).take (k + 1 - from_)) = RM.joined ((all.drop from_).take (k - from_)) ++ all.getD k ⟨#[]⟩) := by
        show _ = _
        rw [RM.drop_take_succ all from_ k hlt hk1, RM.joined_snoc]
      have hz : (RM.joined ((all.drop from_).take (k - from_))).size ≤ 40 * 64 := by
        rw [RM.joined_size _ (fun f hf => unhide HF f (List.mem_of_mem_drop (List.mem_of_mem_take hf)))]
        have := List.length_take_le (k - from_) (all.drop from_)
        omega
      generalize all.getD k ⟨#[]⟩ = fk at *
      generalize RM.joined ((all.drop from_).take (k - from_)) = tk at *
      have hz2 : ¬ 9223372036854775807 < tk.size + fk.size := by omega
      have hz3 : ¬ 9223372036854775807 < tk.size + 40 := by omega
      go_wp2
      go_round
      case rel => exact ⟨k + 1, by omega, by omega, by go_num, by rw [HS.out]⟩
      case measure => simp [intOf]; omega
    · go_wp2
      go_ret
      have e : (all.drop from_).take (k - from_) = all.drop from_ := List.take_of_length_le (by simp; omega)
      exact ⟨by rw [e]; rfl, rfl⟩
end Go.Proofs.YtcmoffiigpchiaaGreat
