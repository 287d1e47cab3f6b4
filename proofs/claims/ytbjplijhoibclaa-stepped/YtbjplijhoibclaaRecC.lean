import Derived.Test.YtbjplijhoibclaaOfC
namespace Go.Proofs.Ytbjplijhoibclaa
open Go.RowKit

/-- What the code keeps written down of a machine. -/
abbrev rcv (kept : ByteArray) (last room : Int) (number : Nat) : Value := .agg #[.string kept, .int .i64 last, .int .i64 room, .int .i64 (number : Int)]
abbrev RM.rcd (m : RM) : Value := rcv (RM.traceOf m) m.last m.room (m.all.length % 65536)

namespace RM
theorem kept_size {m : RM} (hm : m.Ok) : (traceOf m).size ≤ 2560 := by
  have := traceOf_size hm
  have := hm.kept
  omega
theorem byt_trace {m : RM} (hm : m.Ok) (d : Nat) (hd : d < m.all.length - m.from_) : nthC m.all (m.from_ + d) = decide (Code.byt (traceOf m) (40 * d) = 67) := by
  unfold traceOf
  rw [byt_joined _ (fun f hf => hm.frames f (List.mem_of_mem_drop hf)) d (by rw [List.length_drop]; omega)]
  have : (m.all.drop m.from_).getD d ⟨#[]⟩ = m.all.getD (m.from_ + d) ⟨#[]⟩ := by simp [List.getD, List.getElem?_drop]
  rw [this]
  rfl
theorem place_last (m : RM) : (place m).1.last = m.last := by
  unfold place
  split
  · rfl
  · split <;> rfl
theorem traceOf_put {m : RM} (hm : m.Ok) (f : ByteArray) : traceOf (put m f) = traceOf m ++ f := by
  unfold traceOf put
  simp only
  rw [List.drop_append_of_le_length hm.from1, joined_snoc]
end RM

set_option maxRecDepth 100000 in
set_option maxHeartbeats 1000000 in
theorem secondState_code (m : RM) (hm : m.Ok) (h1 : m.from_ < m.all.length) (h2 : RM.nthC m.all m.from_ = true) (w : World) :
    Calls Try.prog 88 #[.string (RM.traceOf m)] w fun e w' => e = .returned (.int .i64 ((40 * RM.second m : Nat) : Int)) ∧ w' = w := by
  have hz := RM.traceOf_size hm
  have hk := RM.kept_size hm
  have HB := hide (RM.byt_trace hm)
  have HS : Hid (∀ d, 1 ≤ d → d < m.all.length - m.from_ → RM.nthC m.all (m.from_ + d) = true → (∀ j, 1 ≤ j → j < d → RM.nthC m.all (m.from_ + j) = false) → RM.second m = d) := hide (by
    intro d d1 d2 d3 d4
    have := RM.firstC_here (all := m.all) (i := m.from_ + 1) (j := m.from_ + d) (by omega) (by omega) d3 (fun k k1 k2 => by
      have := d4 (k - m.from_) (by omega) (by omega)
      rwa [show m.from_ + (k - m.from_) = k by omega] at this)
    unfold RM.second
    rw [this]
    simp)
  have HN : Hid ((∀ j, 1 ≤ j → j < m.all.length - m.from_ → RM.nthC m.all (m.from_ + j) = false) → RM.second m = m.all.length - m.from_) := hide (by
    intro d4
    have := RM.firstC_none (all := m.all) (i := m.from_ + 1) (fun k k1 k2 => by
      have := d4 (k - m.from_) (by omega) (by omega)
      rwa [show m.from_ + (k - m.from_) = k by omega] at this)
    unfold RM.second
    rw [this]
    simp)
  have H2 : Hid (RM.nthC m.all (m.from_ + 0) = true) := h2
  generalize RM.traceOf m = t at *
  generalize RM.second m = sc at *
  have hL : 0 < m.all.length - m.from_ := by omega
  generalize m.all.length - m.from_ = L at *
  generalize m.all = all at *
  generalize m.from_ = fr at *
  have HZ := hide hz
  clear h1 h2 hm hz
  go_enter Try.func88, Try.ntmps88
  go_wp2
  go_loop [3, 4] (fun st at_ => ∃ a d : Nat, a = 40 * d ∧ d ≤ L ∧ at_ = .int .i64 a ∧ st = .int .i64 (if d = 0 then 0 else 1 : Int) ∧ ∀ j, 1 ≤ j → j < d → RM.nthC all (fr + j) = false) (fun _ at_ => t.size - (intOf at_).toNat)
  case atStart => exact ⟨0, 0, rfl, Nat.zero_le _, rfl, rfl, fun j h1 h2 => absurd h2 (by omega)⟩
  case round =>
    obtain ⟨a, d, ha, hd, rfl, rfl, hno⟩ := hrel
    have HNo := hide hno
    have HA := hide ha
    have hab : a ≤ t.size := by rw [unhide HZ]; omega
    clear hno
    by_cases hlt : d < L
    · have hat : a < t.size := by rw [unhide HZ]; omega
      have ha40 : a + 40 ≤ t.size := by rw [unhide HZ]; omega
      have b0 := Code.byt_eq t a hat
      have hbn := unhide HB d hlt
      rw [← ha] at hbn
      have HBN := hide hbn
      clear hbn ha
      by_cases h0 : d = 0
      · subst h0
        have hc : Code.byt t a = 67 := by
          have := unhide H2
          rw [unhide HBN] at this
          simpa using this
        have dq : ((Code.byt t a : Int) == 67) = true := by simp [hc]
        rw [if_pos rfl]
        clear hc
        go_wp2
        go_round
        case rel => exact ⟨a + 40, 1, by have := unhide HA; omega, by omega, by go_num, rfl, fun j h1 h2 => absurd h2 (by omega)⟩
        case measure => simp [intOf]; omega
      · rw [if_neg h0]
        by_cases hc : Code.byt t a = 67
        · have dq : ((Code.byt t a : Int) == 67) = true := by simp [hc]
          have HC := hide hc
          clear hc
          go_wp2
          go_ret
          refine ⟨?_, rfl⟩
          have e : 40 * sc = a := by
            rw [unhide HS d (by omega) hlt (by rw [unhide HBN]; simpa using unhide HC) (unhide HNo)]
            exact (unhide HA).symm
          exact (ret_int (by omega) : Ending.returned (.int .i64 (a : Int)) = .returned (.int .i64 (40 * (sc : Int))))
        · have dq : ((Code.byt t a : Int) == 67) = false := by simp; omega
          have HC := hide hc
          clear hc
          go_wp2
          go_round
          case rel => exact ⟨a + 40, d + 1, by have := unhide HA; omega, by omega, by go_num, by rw [if_neg (by omega)], fun j h1 h2 => by
                        rcases Nat.lt_succ_iff_lt_or_eq.1 h2 with h | h
                        · exact unhide HNo j h1 h
                        · rw [h, unhide HBN]; simpa using unhide HC⟩
          case measure => simp [intOf]; omega
    · have hdl : d = L := by omega
      have hae : ¬ a < t.size := by rw [unhide HZ]; omega
      have HE : Hid (40 * sc = t.size) := hide (by rw [unhide HN (fun j h1 h2 => unhide HNo j h1 (by omega)), unhide HZ])
      clear ha hdl
      have hd0 : ¬ d = 0 := by omega
      rw [if_neg hd0]
      go_wp2
      go_ret
      refine ⟨?_, rfl⟩
      have e := unhide HE
      exact (ret_int (by omega) : Ending.returned (.int .i64 (t.size : Int)) = .returned (.int .i64 (40 * (sc : Int))))

set_option maxRecDepth 100000 in
set_option maxHeartbeats 1000000 in
theorem withRoom_code (m : RM) (hm : m.Ok) (hh : m.from_ < m.all.length → RM.nthC m.all m.from_ = true) (w : World) :
    Calls Try.prog 64 #[m.rcd] w fun e w' => e = .returned (RM.place m).1.rcd ∧ Below w.heap.size w w' := by
  have hk := RM.kept_size hm
  have ht := RM.place_trace hm
  have hl := RM.place_last m
  have hr := RM.place_room' m
  have ha := RM.place_all m
  have hz := RM.traceOf_size hm
  have r0 := hm.room0
  have r1 := hm.room1
  by_cases h : m.room * 40 ≤ ((RM.traceOf m).size : Int)
  · rw [if_pos h] at ht
    have hfl : m.from_ < m.all.length := by omega
    have HS := hide (secondState_code m hm hfl (hh hfl))
    have hsc : 40 * RM.second m ≤ (RM.traceOf m).size := by
      rw [hz]
      unfold RM.second
      have : (RM.firstC m.all (m.from_ + 1)).getD m.all.length ≤ m.all.length := by
        cases hc : RM.firstC m.all (m.from_ + 1) with
        | none => exact Nat.le_refl _
        | some j => exact Nat.le_of_lt (RM.firstC_some hc).2.1
      omega
    have HR : Hid ((RM.place m).1.rcd = rcv ((RM.traceOf m).extract (40 * RM.second m) (RM.traceOf m).size) m.last m.room (m.all.length % 65536)) := hide (by unfold RM.rcd; rw [ht, hl, hr, ha])
    clear ht hl hr ha hz hfl hm hh
    unfold RM.rcd at *
    generalize 40 * RM.second m = sc at *
    generalize RM.traceOf m = t at *
    generalize m.all.length % 65536 = nb at *
    generalize m.room = room at *
    generalize m.last = last at *
    go_enter Try.func64, Try.ntmps64
    go_wp2_with (go_at_call 88; refine (unhide HS _).mono ?_; rintro e w1 ⟨rfl, rfl⟩)
    refine bodyPost_ret (v := rcv (t.extract sc t.size) last room nb) (by simp [results, Try.results64, go_sem]) rfl ⟨by rw [unhide HR], ?_⟩
    repeat (refine Below.setCell ?_ (by simp <;> omega) _)
    exact bel2
  · rw [if_neg h] at ht
    have HR : Hid ((RM.place m).1.rcd = m.rcd) := hide (by unfold RM.rcd; rw [ht, hl, hr, ha])
    clear ht hl hr ha hz hm hh
    unfold RM.rcd at *
    generalize RM.traceOf m = t at *
    generalize m.all.length % 65536 = nb at *
    generalize m.room = room at *
    generalize m.last = last at *
    go_enter Try.func64, Try.ntmps64
    go_wp2
    refine bodyPost_ret (v := rcv t last room nb) (by simp [results, Try.results64, go_sem]) rfl ⟨by rw [unhide HR], ?_⟩
    repeat (refine Below.setCell ?_ (by simp <;> omega) _)
    exact bel2

set_option maxRecDepth 100000 in
set_option maxHeartbeats 1000000 in
theorem with_code (m : RM) (hm : m.Ok) (f : ByteArray) (hf : f.size = 40) (w : World) :
    Calls Try.prog 66 #[m.rcd, .string f] w fun e w' => e = .returned (RM.put m f).rcd ∧ Below w.heap.size w w' := by
  have hk := RM.kept_size hm
  have HR : Hid ((RM.put m f).rcd = rcv (RM.traceOf m ++ f) m.last m.room ((m.all.length % 65536 + 1) % 65536)) := hide (by
    unfold RM.rcd
    rw [RM.traceOf_put hm]
    have : (RM.put m f).all.length % 65536 = (m.all.length % 65536 + 1) % 65536 := by simp [RM.put]
    rw [this]
    rfl)
  have hnb : m.all.length % 65536 < 65536 := Nat.mod_lt _ (by decide)
  clear hm
  unfold RM.rcd at *
  generalize RM.traceOf m = t at *
  generalize m.all.length % 65536 = nb at *
  generalize m.room = room at *
  generalize m.last = last at *
  have hz2 : ¬ 9223372036854775807 < t.size + f.size := by omega
  have hz3 : ¬ 9223372036854775807 < t.size + 40 := by omega
  have hm2 : ((nb : Int) + 1) % 65536 = (((nb + 1) % 65536 : Nat) : Int) := by omega
  generalize (nb + 1) % 65536 = nb' at *
  go_enter Try.func66, Try.ntmps66
  go_wp2
  refine bodyPost_ret (v := rcv (t ++ f) last room nb') (by simp [results, Try.results66, go_sem]) rfl ⟨by rw [unhide HR], ?_⟩
  repeat (refine Below.setCell ?_ (by simp <;> omega) _)
  exact bel2
end Go.Proofs.Ytbjplijhoibclaa
