import Derived.Test.YtcmoffiigpchiaaSealW
import Derived.Test.YtcmoffiigpchiaaStP
import Derived.Test.YtcmoffiigpchiaaBase
namespace Go.Proofs.Ytcmoffiigpchiaa
open Go.RowKit
namespace Keep

/-- Which of n things a raw number speaks of. -/
def kp (c : Int) (n : Nat) : Nat := (if c < 0 then (-(c + 1)) else c).toNat % n
theorem kp_lt (c : Int) {n : Nat} (h : 0 < n) : kp c n < n := Nat.mod_lt _ h

set_option maxHeartbeats 400000 in
theorem pick_k (c : Int) (n : Nat) (hn : 0 < n) (hc : i64ok c) (hn2 : n ≤ 1099511627776) (w : World) :
    Calls Try.prog 14 #[.int .i64 c, .int .i64 (n : Int)] w fun e w' => e = .returned (.int .i64 (kp c n : Int)) ∧ w' = w := by
  obtain ⟨c0, c1⟩ := hc
  by_cases h : c < 0
  · obtain ⟨d, hd⟩ : ∃ d : Nat, (d : Int) = -(c + 1) := ⟨(-(c + 1)).toNat, by omega⟩
    have e : (kp c n : Int) = (d : Int) % (n : Int) := by
      unfold kp
      rw [if_pos h, ← hd, Int.toNat_natCast]
      exact Int.natCast_emod d n
    have e2 : -1 + -c = (d : Int) := by omega
    have e3 : -(c + 1) = (d : Int) := by omega
    have HE := hide e
    have HD := hide hd
    clear e hd
    go_enter Try.func14, Try.ntmps14
    go_wp2
    go_ret
    exact ⟨by rw [unhide HE]; rfl, rfl⟩
  · obtain ⟨d, rfl⟩ := Int.eq_ofNat_of_zero_le (show 0 ≤ c by omega)
    have e : (kp (d : Int) n : Int) = (d : Int) % (n : Int) := by
      unfold kp
      rw [if_neg h, Int.toNat_natCast]
      exact Int.natCast_emod d n
    have HE := hide e
    clear e
    go_enter Try.func14, Try.ntmps14
    go_wp2
    go_ret
    exact ⟨by rw [unhide HE]; rfl, rfl⟩
theorem pick_63 (c : Int) (hc : i64ok c) (w : World) : Calls Try.prog 14 #[.int .i64 c, .int .i64 63] w fun e w' => e = .returned (.int .i64 (kp c 63 : Int)) ∧ w' = w := pick_k c 63 (by decide) hc (by decide) w
theorem pick_50 (c : Int) (hc : i64ok c) (w : World) : Calls Try.prog 14 #[.int .i64 c, .int .i64 50] w fun e w' => e = .returned (.int .i64 (kp c 50 : Int)) ∧ w' = w := pick_k c 50 (by decide) hc (by decide) w
theorem pick_60 (c : Int) (hc : i64ok c) (w : World) : Calls Try.prog 14 #[.int .i64 c, .int .i64 60] w fun e w' => e = .returned (.int .i64 (kp c 60 : Int)) ∧ w' = w := pick_k c 60 (by decide) hc (by decide) w
theorem pick_big (c : Int) (hc : i64ok c) (w : World) : Calls Try.prog 14 #[.int .i64 c, .int .i64 1099511627776] w fun e w' => e = .returned (.int .i64 (kp c 1099511627776 : Int)) ∧ w' = w := pick_k c 1099511627776 (by omega) hc (by omega) w

/-- The choice of a raw number. -/
def chOf (c : Int) : ChV :=
  let k := kp c 1099511627776
  ⟨if k / 7 % 3 = 0 then ((k / 7 / 3 % 256 : Nat) : Int) else 0, if k / 7 / 768 % 4 = 0 then ((k / 7 / 768 / 4 % 256 : Nat) : Int) else 0, decide (k % 7 = 0)⟩
theorem chOf_chosen (c : Int) : Mach.Chosen (chOf c) := by
  unfold chOf
  refine ⟨?_, ?_, ?_, ?_⟩
  all_goals
    simp only
    split <;> omega

set_option maxRecDepth 100000 in
set_option maxHeartbeats 1000000 in
theorem choice_k (c : Int) (hc : i64ok c) (w : World) :
    Calls Try.prog 26 #[.int .i64 c] w fun e w' => e = .returned (chOf c).val ∧ Below w.heap.size w w' := by
  have HP := hide (pick_big c hc)
  have hk : kp c 1099511627776 < 1099511627776 := kp_lt c (by omega)
  have HC : Hid (∀ a b d, (if kp c 1099511627776 / 7 % 3 = 0 then ((kp c 1099511627776 / 7 / 3 % 256 : Nat) : Int) else 0) = a → (if kp c 1099511627776 / 7 / 768 % 4 = 0 then ((kp c 1099511627776 / 7 / 768 / 4 % 256 : Nat) : Int) else 0) = b → decide (kp c 1099511627776 % 7 = 0) = d → (chOf c).val = ChV.val ⟨a, b, d⟩) := hide (by rintro a b d rfl rfl rfl; rfl)
  generalize kp c 1099511627776 = k at *
  have hi7 : ((k : Int) % 7 == 0) = decide (k % 7 = 0) := by
    by_cases h : k % 7 = 0
    · have : (k : Int) % 7 = 0 := by omega
      simp [h, this]
    · have : ¬ (k : Int) % 7 = 0 := by omega
      simp [h, this]
  have e1 : ((k / 7 / 3 % 256 : Nat) : Int) = (k : Int) / 7 / 3 % 256 := by omega
  have e2 : ((k / 7 / 768 / 4 % 256 : Nat) : Int) = (k : Int) / 7 / 768 / 4 % 256 := by omega
  rw [e1, e2] at HC
  clear e1 e2
  by_cases h1 : k / 7 % 3 = 0
  · have d1 : ((k : Int) / 7 % 3 == 0) = true := by
      have : (k : Int) / 7 % 3 = 0 := by omega
      simp [this]
    by_cases h2 : k / 7 / 768 % 4 = 0
    · have d2 : ((k : Int) / 7 / 768 % 4 == 0) = true := by
        have : (k : Int) / 7 / 768 % 4 = 0 := by omega
        simp [this]
      rw [unhide HC _ _ _ (if_pos h1) (if_pos h2) rfl]
      clear h1 h2 HC
      go_enter Try.func26, Try.ntmps26
      go_wp2_with fail
      refine (unhide HP _).mono ?_
      rintro e w1 ⟨rfl, hw⟩
      obtain rfl := hw.symm
      go_wp2_with fail
      refine bodyPost_ret (v := ChV.val ⟨(k : Int) / 7 / 3 % 256, (k : Int) / 7 / 768 / 4 % 256, decide (k % 7 = 0)⟩) (by simp [results, Try.results26, go_sem]) rfl ⟨?_, bel2⟩
      first | rfl | (congr 4 <;> omega) | (simp only [Int.natCast_emod, Int.natCast_ediv]; rfl)
    · have d2 : ((k : Int) / 7 / 768 % 4 == 0) = false := by
        have : ¬ (k : Int) / 7 / 768 % 4 = 0 := by omega
        simp [this]
      rw [unhide HC _ _ _ (if_pos h1) (if_neg h2) rfl]
      clear h1 h2 HC
      go_enter Try.func26, Try.ntmps26
      go_wp2_with fail
      refine (unhide HP _).mono ?_
      rintro e w1 ⟨rfl, hw⟩
      obtain rfl := hw.symm
      go_wp2_with fail
      refine bodyPost_ret (v := ChV.val ⟨(k : Int) / 7 / 3 % 256, 0, decide (k % 7 = 0)⟩) (by simp [results, Try.results26, go_sem]) rfl ⟨?_, bel2⟩
      first | rfl | (congr 4 <;> omega) | (simp only [Int.natCast_emod, Int.natCast_ediv]; rfl)
  · have d1 : ((k : Int) / 7 % 3 == 0) = false := by
      have : ¬ (k : Int) / 7 % 3 = 0 := by omega
      simp [this]
    by_cases h2 : k / 7 / 768 % 4 = 0
    · have d2 : ((k : Int) / 7 / 768 % 4 == 0) = true := by
        have : (k : Int) / 7 / 768 % 4 = 0 := by omega
        simp [this]
      rw [unhide HC _ _ _ (if_neg h1) (if_pos h2) rfl]
      clear h1 h2 HC
      go_enter Try.func26, Try.ntmps26
      go_wp2_with fail
      refine (unhide HP _).mono ?_
      rintro e w1 ⟨rfl, hw⟩
      obtain rfl := hw.symm
      go_wp2_with fail
      refine bodyPost_ret (v := ChV.val ⟨0, (k : Int) / 7 / 768 / 4 % 256, decide (k % 7 = 0)⟩) (by simp [results, Try.results26, go_sem]) rfl ⟨?_, bel2⟩
      first | rfl | (congr 4 <;> omega) | (simp only [Int.natCast_emod, Int.natCast_ediv]; rfl)
    · have d2 : ((k : Int) / 7 / 768 % 4 == 0) = false := by
        have : ¬ (k : Int) / 7 / 768 % 4 = 0 := by omega
        simp [this]
      rw [unhide HC _ _ _ (if_neg h1) (if_neg h2) rfl]
      clear h1 h2 HC
      go_enter Try.func26, Try.ntmps26
      go_wp2_with fail
      refine (unhide HP _).mono ?_
      rintro e w1 ⟨rfl, hw⟩
      obtain rfl := hw.symm
      go_wp2_with fail
      refine bodyPost_ret (v := ChV.val ⟨0, 0, decide (k % 7 = 0)⟩) (by simp [results, Try.results26, go_sem]) rfl ⟨?_, bel2⟩
      first | rfl | (congr 4 <;> omega) | (simp only [Int.natCast_emod, Int.natCast_ediv]; rfl)

set_option maxRecDepth 100000 in
set_option maxHeartbeats 1000000 in
theorem first_k (w : World) : Calls Try.prog 25 #[] w fun e w' => e = .returned Frame.begin.val ∧ Below w.heap.size w w' := by
  have hm := make16
  have hb := zeros_back 16 zc16 (fun j hj => by rw [zc16_eq]; exact repl_at 16 _ j hj)
  have hz := Frame.zeroB_size 16
  have HB : Hid (Frame.begin = ⟨0, 0, (Frame.zeroB 16).extract 0 4, Frame.zeroB 16, 0, -1, -1, false, false⟩) := by
    show _ = _
    unfold Frame.begin
    congr 1
  generalize Frame.zeroB 16 = z at *
  generalize zc16 = C at *
  have hs : ∀ X : Obj, (w.alloc X).heap.size = w.heap.size + 1 := fun X => by simp
  have hm2 : ∀ X : Obj, (Instr.makeSlice 46 (.int .i64 16) (.int .i64 16)).run Try.prog (w.alloc X) = .ok (.slice (some ⟨w.heap.size + 1, 0, none⟩) 16 16) ((w.alloc X).alloc (.cells C 5)) := fun X => by rw [← hs X]; exact hm (w.alloc X)
  have hb2 : ∀ X : Obj, (convert 46 9 (.slice (some ⟨w.heap.size + 1, 0, none⟩) 16 16)).run Try.prog ((w.alloc X).alloc (.cells C 5)) = .ok (.string z) ((w.alloc X).alloc (.cells C 5)) := fun X => by rw [← hs X]; exact hb (w.alloc X)
  clear hm hb hs
  go_enter Try.func25, Try.ntmps25
  go_wp2
  refine bodyPost_ret (v := StV.val ⟨0, 0, z.extract 0 4, z, 0, -1, -1, false, false⟩) (by simp [results, Try.results25, go_sem]) rfl ⟨by rw [HB.out], ?_⟩
  repeat (refine Below.setCell ?_ (by simp <;> omega) _)
  exact bel2

set_option maxRecDepth 100000 in
set_option maxHeartbeats 1000000 in
theorem same_k (s : StV) (w : World) :
    Calls Try.prog 24 #[s.val, s.val] w fun e w' => e = .returned (.bool true) ∧ Below w.heap.size w w' := by
  obtain ⟨n, pc, regs, cells, clock, handler, back, pending, halted⟩ := s
  go_enter Try.func24, Try.ntmps24
  go_wp2
  go_ret
  exact ⟨by simp, bel2⟩
end Keep
end Go.Proofs.Ytcmoffiigpchiaa
