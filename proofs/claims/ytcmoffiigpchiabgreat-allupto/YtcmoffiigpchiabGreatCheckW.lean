import Derived.Test.YtcmoffiigpchiabGreatBase
import Derived.Deep.QuietTactic
import Derived.BigQuiet
namespace Go.Proofs.YtcmoffiigpchiabGreat
open Go.RowKit

set_option maxHeartbeats 400000 in
theorem second_code (op : Nat) (w : World) :
    Calls Tryz.prog 91 #[.int .u8 op] w fun e w' => e = .returned (.int .i64 (Code.sec op)) ∧ w' = w := by
  go_enter Tryz.func91, Tryz.ntmps91
  go_wp2
  all_goals
    go_ret
    refine ⟨ret_int ?_, rfl⟩
    simp only [beq_iff_eq, beq_eq_false_iff_ne, ne_eq] at *
    first
      | (have e : Code.cls2 op = 114 := by { unfold Code.cls2; rw [if_pos (by omega)] }
         simp [Code.sec, e]; done)
      | (have e : Code.cls2 op = 46 := by { unfold Code.cls2; rw [if_neg (by omega), if_pos (by omega)] }
         simp [Code.sec, e]; done)
      | (have e : Code.cls2 op = 0 := by { unfold Code.cls2; rw [if_neg (by omega), if_neg (by omega)] }
         simp [Code.sec, e]; done)

set_option maxHeartbeats 400000 in
theorem third_code (op : Nat) (w : World) :
    Calls Tryz.prog 92 #[.int .u8 op] w fun e w' => e = .returned (.int .i64 (Code.thr op)) ∧ w' = w := by
  go_enter Tryz.func92, Tryz.ntmps92
  go_wp2
  all_goals
    go_ret
    refine ⟨ret_int ?_, rfl⟩
    simp only [beq_iff_eq, beq_eq_false_iff_ne, ne_eq] at *
    first
      | (have e : Code.cls3 op = 100 := by { unfold Code.cls3; rw [if_pos (by omega)] }
         simp [Code.thr, e]; done)
      | (have e : Code.cls3 op = 114 := by { unfold Code.cls3; rw [if_neg (by omega), if_pos (by omega)] }
         simp [Code.thr, e]; done)
      | (have e : Code.cls3 op = 112 := by { unfold Code.cls3; rw [if_neg (by omega), if_neg (by omega), if_pos (by omega)] }
         simp [Code.thr, e]; done)
      | (have e : Code.cls3 op = 46 := by { unfold Code.cls3; rw [if_neg (by omega), if_neg (by omega), if_neg (by omega), if_pos (by omega)] }
         simp [Code.thr, e]; done)
      | (have e : Code.cls3 op = 0 := by { unfold Code.cls3; rw [if_neg (by omega), if_neg (by omega), if_neg (by omega), if_neg (by omega)] }
         simp [Code.thr, e]; done)

set_option maxHeartbeats 400000 in
theorem kind_code (op : Nat) (pl : Int) (h0 : 0 ≤ pl) (w : World) :
    Calls Tryz.prog 64 #[.int .u8 op, .int .i64 pl] w fun e w' => e = .returned (.int .i64 (Code.kind op pl.toNat)) ∧ w' = w := by
  obtain ⟨n, rfl⟩ := Int.eq_ofNat_of_zero_le h0
  rw [Int.toNat_natCast]
  go_enter Tryz.func64, Tryz.ntmps64
  go_wp2_with (first | (go_at_call 91; refine (second_code _ _).mono ?_; rintro e w' ⟨rfl, rfl⟩) | (go_at_call 92; refine (third_code _ _).mono ?_; rintro e w' ⟨rfl, rfl⟩))
  all_goals
    go_ret
    refine ⟨ret_int ?_, rfl⟩
    simp only [beq_iff_eq, beq_eq_false_iff_ne, ne_eq] at *
    unfold Code.kind
    first
      | (rw [if_pos (by omega)]; done)
      | (rw [if_neg (by omega), if_pos (by omega)]; done)
      | (rw [if_neg (by omega), if_neg (by omega)]; done)

set_option maxHeartbeats 400000 in
theorem digit_code (b last : Nat) (hb : b < 256) (w : World) :
    Calls Tryz.prog 93 #[.int .u8 b, .int .u8 last] w fun e w' => e = .returned (.int .i64 (Code.digit b last)) ∧ w' = w := by
  go_enter Tryz.func93, Tryz.ntmps93
  go_wp2
  all_goals
    go_ret
    refine ⟨ret_int ?_, rfl⟩
    unfold Code.digit
    first
      | (rw [if_pos (by omega)]; done)
      | (rw [if_neg (by omega), if_pos (by omega)]; omega)
      | (rw [if_neg (by omega), if_neg (by omega)]; done)
theorem digit_f (b : Nat) (hb : b < 256) (w : World) :
    Calls Tryz.prog 93 #[.int .u8 b, .int .u8 102] w fun e w' => e = .returned (.int .i64 (Code.digit b 102)) ∧ w' = w := digit_code b 102 hb w
theorem digit_v (b : Nat) (hb : b < 256) (w : World) :
    Calls Tryz.prog 93 #[.int .u8 b, .int .u8 118] w fun e w' => e = .returned (.int .i64 (Code.digit b 118)) ∧ w' = w := digit_code b 118 hb w

set_option maxHeartbeats 400000 in
theorem number_code (k : Int) (b : Nat) (hb : b < 256) (w : World) :
    Calls Tryz.prog 65 #[.int .i64 k, .int .u8 b] w fun e w' => e = .returned (.int .i64 (Code.num k b)) ∧ w' = w := by
  by_cases k1 : k = 1
  · subst k1
    go_enter Tryz.func65, Tryz.ntmps65
    go_wp2_with (go_at_call 91; refine (second_code _ _).mono ?_; rintro e w' ⟨rfl, rfl⟩)
    all_goals
      go_ret
      refine ⟨ret_int ?_, rfl⟩
      simp only [bne_iff_ne, bne_eq_false_iff_eq, ne_eq] at *
      simp [Code.num, *]
  by_cases k2 : k = 2
  · subst k2
    go_enter Tryz.func65, Tryz.ntmps65
    go_wp2
    all_goals
      go_ret
      refine ⟨ret_int ?_, rfl⟩
      simp only [Code.num]
      first
        | (simp only [show ¬ (2 : Int) = 1 by omega, if_true, if_false]; rw [if_pos (by omega)]; done)
        | (simp only [show ¬ (2 : Int) = 1 by omega, if_true, if_false]; rw [if_neg (by omega)]; done)
  by_cases k3 : k = 3
  · subst k3
    go_enter Tryz.func65, Tryz.ntmps65
    go_wp2_with (go_at_call 93; refine (digit_f _ hb _).mono ?_; rintro e w' ⟨rfl, rfl⟩)
    go_ret
    exact ⟨ret_int (by simp [Code.num]), rfl⟩
  by_cases k4 : k = 4
  · subst k4
    go_enter Tryz.func65, Tryz.ntmps65
    go_wp2_with (go_at_call 93; refine (digit_v _ hb _).mono ?_; rintro e w' ⟨rfl, rfl⟩)
    go_ret
    exact ⟨ret_int (by simp [Code.num]), rfl⟩
  by_cases k5 : k = 5
  · subst k5
    go_enter Tryz.func65, Tryz.ntmps65
    go_wp2
    all_goals
      go_ret
      refine ⟨ret_int ?_, rfl⟩
      simp only [beq_iff_eq, beq_eq_false_iff_ne, ne_eq] at *
      simp only [Code.num]
      first
        | (simp only [show ¬ (5 : Int) = 1 by omega, show ¬ (5 : Int) = 2 by omega, show ¬ (5 : Int) = 3 by omega, show ¬ (5 : Int) = 4 by omega, if_true, if_false]; rw [if_pos (by omega)]; done)
        | (simp only [show ¬ (5 : Int) = 1 by omega, show ¬ (5 : Int) = 2 by omega, show ¬ (5 : Int) = 3 by omega, show ¬ (5 : Int) = 4 by omega, if_true, if_false]; rw [if_neg (by omega)]; done)
  have e1 : (k == 1) = false := by simpa using k1
  have e2 : (k == 2) = false := by simpa using k2
  have e3 : (k == 3) = false := by simpa using k3
  have e4 : (k == 4) = false := by simpa using k4
  have e5 : (k == 5) = false := by simpa using k5
  have HN : Hid (Code.num k b = -1) := hide (by simp [Code.num, k1, k2, k3, k4, k5])
  clear k1 k2 k3 k4 k5
  go_enter Tryz.func65, Tryz.ntmps65
  go_wp2
  go_ret
  exact ⟨ret_int (by rw [HN.out]), rfl⟩

theorem ret_pair {a b : Int} {p : Int × Int} (h : p = (a, b)) : Ending.returned (.tuple #[.int .i64 a, .int .i64 b]) = .returned (.tuple #[.int .i64 p.1, .int .i64 p.2]) := by rw [h]

set_option maxHeartbeats 400000 in
theorem check_code (s : ByteArray) (w : World) (hs : s.size ≤ maxLen) :
    Calls Tryz.prog 40 #[.string s] w fun e w' => e = .returned (.tuple #[.int .i64 (Code.chk s).1, .int .i64 (Code.chk s).2]) ∧ w' = w := by
  unfold maxLen at hs
  by_cases h96 : 96 < s.size
  · go_enter Tryz.func40, Tryz.ntmps40
    go_wp2
    go_ret2
    exact ⟨ret_pair (Code.chk_long h96), rfl⟩
  go_enter Tryz.func40, Tryz.ntmps40
  go_wp2
  go_loop [4, 5] (fun o i => ∃ k op : Nat, k ≤ s.size ∧ op < 256 ∧ i = .int .i64 k ∧ o = .int .u8 op ∧ (k % 3 ≠ 0 → op = Code.byt s (k / 3 * 3)) ∧ ∀ j, j < k → Code.okAt s j = true) (fun _ i => s.size - (intOf i).toNat)
  case atStart => exact ⟨0, 0, Nat.zero_le _, by omega, rfl, rfl, by simp, fun j hj => absurd hj (by omega)⟩
  case round =>
    obtain ⟨k, op, hk, hop, rfl, rfl, hopk, hall⟩ := hrel
    have HA := hide hall
    have HO := hide hopk
    clear hall hopk
    by_cases hlt : k < s.size
    · have hbk := Code.byt_eq s k hlt
      have hbl := Code.byt_lt s k
      have ht : ((k : Int) % 3).toNat = k % 3 := by omega
      by_cases hm : k % 3 = 0
      · have hmi : ((k : Int) % 3 == 0) = true := beq_iff_eq.2 (by omega)
        have hk3 : k / 3 * 3 = k := by omega
        have HT := hide hk3
        have HH := hide ht
        clear hk3 ht
        by_cases hok : Code.okAt s k = true
        · have hn : ¬ Code.num (Code.kind (Code.byt s k) (k % 3)) (Code.byt s k) < 0 := by
            rw [Code.num_neg _ _ _ (fun h => absurd hm h)]
            unfold Code.okAt at hok
            rw [unhide HT] at hok
            simp [hok]
          rw [hm] at hn
          have HK := hide hok
          clear hok
          go_wp2_with (first | (go_at_call 64; refine (kind_code _ _ (by omega) _).mono ?_; rintro e w' ⟨rfl, rfl⟩; rw [unhide HH]) | (go_at_call 65; refine (number_code _ _ hbl _).mono ?_; rintro e w' ⟨rfl, rfl⟩))
          go_round
          case rel => exact ⟨k + 1, Code.byt s k, by omega, hbl, by go_num, rfl, fun _ => by rw [show (k + 1) / 3 * 3 = k by omega], fun j hj => by
                        rcases Nat.lt_succ_iff_lt_or_eq.1 hj with h | h
                        · exact unhide HA j h
                        · rw [h]; exact unhide HK⟩
          case measure => simp [intOf]; omega
        · have hok' : Code.okAt s k = false := by simpa using hok
          have hn : Code.num (Code.kind (Code.byt s k) (k % 3)) (Code.byt s k) < 0 := by
            rw [Code.num_neg _ _ _ (fun h => absurd hm h)]
            unfold Code.okAt at hok'
            rw [unhide HT] at hok'
            exact hok'
          rw [hm] at hn
          have HK := hide hok'
          clear hok hok'
          go_wp2_with (first | (go_at_call 64; refine (kind_code _ _ (by omega) _).mono ?_; rintro e w' ⟨rfl, rfl⟩; rw [unhide HH]) | (go_at_call 65; refine (number_code _ _ hbl _).mono ?_; rintro e w' ⟨rfl, rfl⟩))
          go_ret2
          exact ⟨ret_pair (Code.chk_bad h96 hlt (unhide HA) (unhide HK)), rfl⟩
      · have hmi : ((k : Int) % 3 == 0) = false := beq_eq_false_iff_ne.2 (by omega)
        have hop2 : op = Code.byt s (k / 3 * 3) := unhide HO hm
        have hsign : Code.cls2 op ≠ 0 := by
          have := unhide HA (k / 3 * 3) (by omega)
          unfold Code.okAt at this
          rw [show k / 3 * 3 % 3 = 0 by omega] at this
          rw [hop2]
          exact Code.okB_sign this
        have HH := hide ht
        have HP := hide hop2
        clear ht hop2
        by_cases hok : Code.okAt s k = true
        · have hn : ¬ Code.num (Code.kind op (k % 3)) (Code.byt s k) < 0 := by
            rw [Code.num_neg _ _ _ (fun _ => hsign)]
            unfold Code.okAt at hok
            rw [← unhide HP] at hok
            simp [hok]
          have HK := hide hok
          clear hok hsign
          go_wp2_with (first | (go_at_call 64; refine (kind_code _ _ (by omega) _).mono ?_; rintro e w' ⟨rfl, rfl⟩; rw [unhide HH]) | (go_at_call 65; refine (number_code _ _ hbl _).mono ?_; rintro e w' ⟨rfl, rfl⟩))
          go_round
          case rel => exact ⟨k + 1, op, by omega, hop, by go_num, rfl, fun h => by rw [unhide HP, show (k + 1) / 3 * 3 = k / 3 * 3 by omega], fun j hj => by
                        rcases Nat.lt_succ_iff_lt_or_eq.1 hj with h | h
                        · exact unhide HA j h
                        · rw [h]; exact unhide HK⟩
          case measure => simp [intOf]; omega
        · have hok' : Code.okAt s k = false := by simpa using hok
          have hn : Code.num (Code.kind op (k % 3)) (Code.byt s k) < 0 := by
            rw [Code.num_neg _ _ _ (fun _ => hsign)]
            unfold Code.okAt at hok'
            rw [← unhide HP] at hok'
            exact hok'
          have HK := hide hok'
          clear hok hok' hsign
          go_wp2_with (first | (go_at_call 64; refine (kind_code _ _ (by omega) _).mono ?_; rintro e w' ⟨rfl, rfl⟩; rw [unhide HH]) | (go_at_call 65; refine (number_code _ _ hbl _).mono ?_; rintro e w' ⟨rfl, rfl⟩))
          go_ret2
          exact ⟨ret_pair (Code.chk_bad h96 hlt (unhide HA) (unhide HK)), rfl⟩
    · by_cases hm : s.size % 3 = 0
      · go_wp2
        go_ret2
        exact ⟨ret_pair (Code.chk_ok h96 (fun j hj => (unhide HA) j (by omega)) hm), rfl⟩
      · go_wp2
        go_ret2
        exact ⟨ret_pair (Code.chk_short h96 (fun j hj => (unhide HA) j (by omega)) hm), rfl⟩
end Go.Proofs.YtcmoffiigpchiabGreat
