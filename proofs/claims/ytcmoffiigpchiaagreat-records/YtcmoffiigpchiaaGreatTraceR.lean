import Derived.Test.YtcmoffiigpchiaaGreatRecW
namespace Go.Proofs.YtcmoffiigpchiaaGreat
open Go.RowKit

set_option maxRecDepth 100000 in
set_option maxHeartbeats 2000000 in
theorem trace_ref (b g cap : Nat) (m : RM) (hm : m.Ok) (w : World) (h : RefAt w b g cap m) :
    Calls Tryz.prog 45 #[.pointer (some ⟨b, 0, none⟩)] w fun e w' => e = .returned (.string (RM.traceOf m)) ∧ w' = w := by
  obtain ⟨⟨c, f, lt⟩, own, ne⟩ := h
  have HO := hide (own_cell own)
  clear own
  obtain ⟨good, r0, r1, q0, q1, lg, f1, fr, l0, l1, sz, kp⟩ := hm
  obtain ⟨p, room, period, ⟨n, pc, regs, cells, clock, handler, back, pending, halted⟩, all, from_, last⟩ := m
  simp only at r0 r1 q0 q1 f1 fr l0 l1 sz kp c HO
  have HF := hide fr
  clear good lg fr
  go_enter Tryz.func45, Tryz.ntmps45
  go_wp2
  go_loop [3, 4] (fun t i => ∃ k : Nat, from_ ≤ k ∧ k ≤ all.length ∧ i = .int .i64 k ∧ t = .string (RM.joined ((all.drop from_).take (k - from_)))) (fun _ i => all.length - (intOf i).toNat)
  case atStart => exact ⟨from_, Nat.le_refl _, f1, rfl, by rw [Nat.sub_self]; rfl⟩
  case round =>
    obtain ⟨k, hk1, hk2, rfl, rfl⟩ := hrel
    by_cases hlt : k < all.length
    · have ck := unhide HO k hlt
      have fz : (all.getD k ⟨#[]⟩).size = 40 := unhide HF _ (by simp [List.getD, hlt])
      have HS : Hid (RM.joined ((all.drop from_).take (k + 1 - from_)) = RM.joined ((all.drop from_).take (k - from_)) ++ all.getD k ⟨#[]⟩) := by
        show _ = _
        rw [RM.drop_take_succ all from_ k hlt hk1, RM.joined_snoc]
      have hz : (RM.joined ((all.drop from_).take (k - from_))).size ≤ 40 * 64 := by
        rw [RM.joined_size _ (fun f hf => unhide HF f (List.mem_of_mem_drop (List.mem_of_mem_take hf)))]
        have := List.length_take_le (k - from_) (all.drop from_)
        omega
      generalize all.getD k ⟨#[]⟩ = fk at *
      generalize RM.joined ((all.drop from_).take (k - from_)) = tk at *
      have hz2 : ¬ 9223372036854775807 < tk.size + fk.size := by omega
      have hz3 : ¬ 9223372036854775807 < tk.size + 40 := by omega
      go_wp2
      go_round
      case rel => exact ⟨k + 1, by omega, by omega, by go_num, by rw [HS.out]⟩
      case measure => simp [intOf]; omega
    · go_wp2
      go_ret
      have e : (all.drop from_).take (k - from_) = all.drop from_ := List.take_of_length_le (by simp; omega)
      exact ⟨by rw [e]; rfl, rfl⟩
end Go.Proofs.YtcmoffiigpchiaaGreat
