import Derived.Test.YtcmoffiigpchiabGreatCheckW
import Derived.Deep.RegionWith
namespace Go.Proofs.YtcmoffiigpchiabGreat
open Go.RowKit


set_option maxHeartbeats 400000 in
theorem stands_ref (c b : Nat) (w : World) :
    Calls Tryz.prog 41 #[.int .u8 c, .int .u8 b] w fun e w' => e = .returned (.bool (Code.stand c b)) ∧ w' = w := by
  go_enter Tryz.func41, Tryz.ntmps41
  go_wp2
  all_goals
    go_ret
    refine ⟨ret_bool ?_, rfl⟩
    simp only [beq_iff_eq, beq_eq_false_iff_ne, ne_eq] at *
    rw [Bool.eq_iff_iff]
    first
      | (rw [Code.stand_r b (by omega)]; simp; omega)
      | (rw [Code.stand_d b (by omega)]; simp; omega)
      | (rw [Code.stand_p b (by omega)]; simp; omega)
      | (rw [Code.stand_o b (by omega) (by omega) (by omega)]; simp; omega)

theorem index_tab (s : ByteArray) (f : Nat → Nat) (n : Nat) (hs : s.size = n) (hf : ∀ (i : Nat) (h : i < s.size), s[i].toNat = f i) (k : Nat) (hk : k < n) (w : World) :
    (Instr.index 9 (.string s) (.int .i64 k)).run Tryz.prog w = .ok (.int .u8 (f k : Nat)) w := by
  rw [run_index_string w 9 s .i64 _ Tryz.underlying9, dif_pos ⟨by omega, by omega⟩]
  have := hf k (by omega)
  simp [this]
theorem index_sg (k : Nat) (hk : k < 15) (w : World) :
    (Instr.index 9 (.string ⟨#[61, 43, 45, 60, 62, 40, 41, 63, 35, 106, 122, 105, 109, 101, 104]⟩) (.int .i64 k)).run Tryz.prog w = .ok (.int .u8 (Code.sg k : Nat)) w :=
  index_tab _ Code.sg 15 rfl (by decide) k hk w
theorem index_sc2 (k : Nat) (hk : k < 15) (w : World) :
    (Instr.index 9 (.string ⟨#[114, 114, 114, 114, 114, 114, 114, 114, 114, 46, 114, 46, 46, 46, 46]⟩) (.int .i64 k)).run Tryz.prog w = .ok (.int .u8 (Code.sc2 k : Nat)) w :=
  index_tab _ Code.sc2 15 rfl (by decide) k hk w
theorem index_sc3 (k : Nat) (hk : k < 15) (w : World) :
    (Instr.index 9 (.string ⟨#[100, 114, 114, 100, 100, 114, 114, 46, 46, 112, 112, 112, 46, 46, 46]⟩) (.int .i64 k)).run Tryz.prog w = .ok (.int .u8 (Code.sc3 k : Nat)) w :=
  index_tab _ Code.sc3 15 rfl (by decide) k hk w

set_option maxHeartbeats 400000 in
theorem check_ref (s : ByteArray) (w : World) (hs : s.size ≤ maxLen) :
    Calls Tryz.prog 18 #[.string s] w fun e w' => e = .returned (.tuple #[.int .i64 (Code.chk s).1, .int .i64 (Code.chk s).2]) ∧ Below w.heap.size w w' := by
  unfold maxLen at hs
  by_cases h96 : 96 < s.size
  · go_enter Tryz.func18, Tryz.ntmps18
    go_wp2
    go_ret2
    exact ⟨ret_pair (Code.chk_long h96), Below.refl _ _⟩
  go_enter Tryz.func18, Tryz.ntmps18
  go_wp2
  go_loopw [4, 5] (fun o i wr => ∃ n kk : Nat, n ≤ s.size ∧ kk ≤ 15 ∧ i = .int .i64 n ∧ o = .int .i64 kk ∧ (n % 3 ≠ 0 → kk < 15 ∧ Code.sg kk = Code.byt s (n / 3 * 3)) ∧ (∀ j, j < n → Code.okAt s j = true) ∧ Below w.heap.size w wr) (fun _ i _ => s.size - (intOf i).toNat)
  case atStart => exact ⟨0, 0, Nat.zero_le _, by omega, rfl, rfl, by simp, fun j hj => absurd hj (by omega), Below.refl _ _⟩
  case round =>
    obtain ⟨n, kk, hn, hkk, rfl, rfl, hsg, hall, hb⟩ := hrel
    have HA := hide hall
    have HO := hide hsg
    have HB := hide hb
    clear hall hsg hb
    by_cases hlt : n < s.size
    · have hbk := Code.byt_eq s n hlt
      have hbl := Code.byt_lt s n
      by_cases hm0 : n % 3 = 0
      · have hmi : ((n : Int) % 3 == 0) = true := beq_iff_eq.2 (by omega)
        go_wp2
        go_loopw [4] (fun o wr => ∃ k : Nat, k ≤ 15 ∧ o = .int .i64 k ∧ (∀ j, j < k → Code.sg j ≠ Code.byt s n) ∧ Below w.heap.size w wr) (fun o _ => 15 - (intOf o).toNat)
        case atStart => exact ⟨0, by omega, rfl, fun j hj => absurd hj (by omega), unhide HB⟩
        case round =>
          obtain ⟨k, hk, rfl, hne, hb⟩ := hrel
          have HN := hide hne
          have HB2 := hide hb
          clear hne hb
          by_cases hk15 : k < 15
          · have hd : decide ((k : Int) < 15) = true := by simp; omega
            have hix := index_sg k hk15
            by_cases he : Code.sg k = Code.byt s n
            · have hne : ((Code.sg k : Int) != (Code.byt s n : Int)) = false := by rw [he]; simp
              have HE := hide he
              clear he
              go_wp2
              go_quiet (fail)
              go_wp2
              go_roundw
              case rel =>
                exact ⟨n + 1, k, by omega, hk, by go_num, rfl, fun _ => ⟨hk15, by rw [unhide HE, show (n + 1) / 3 * 3 = n by omega]⟩, fun j hj => by
                    rcases Nat.lt_succ_iff_lt_or_eq.1 hj with h | h
                    · exact unhide HA j h
                    · rw [h]; exact Code.okAt_first hm0 hk15 (unhide HE), below_drewN (unhide HB2) _⟩
              case measure => simp [intOf]; omega
            · have hne : ((Code.sg k : Int) != (Code.byt s n : Int)) = true := by rw [bne_iff_ne]; omega
              have HE := hide he
              clear he
              go_wp2
              go_quiet (fail)
              go_wp2
              go_roundw
              case rel => exact ⟨k + 1, by omega, by go_num, fun j hj => by
                            rcases Nat.lt_succ_iff_lt_or_eq.1 hj with h | h
                            · exact unhide HN j h
                            · rw [h]; exact unhide HE, below_drewN (unhide HB2) _⟩
              case measure => simp [intOf]; omega
          · have hk' : k = 15 := by omega
            subst hk'
            go_wp2
            go_quiet (fail)
            go_wp2
            go_ret2
            exact ⟨ret_pair (Code.chk_bad h96 hlt (unhide HA) (Code.okAt_none hm0 (unhide HN))), below_drewN (unhide HB2) _⟩
      · have hmi : ((n : Int) % 3 == 0) = false := beq_eq_false_iff_ne.2 (by omega)
        obtain ⟨hk15, hsk⟩ := unhide HO hm0
        have hop2 := hide hsk
        clear hsk
        obtain ⟨t1, t2, t3, t4, t5, t6⟩ := Code.table kk hk15
        by_cases hm1 : n % 3 = 1
        · have hmj : ((n : Int) % 3 == 1) = true := beq_iff_eq.2 (by omega)
          have hix := index_sc2 kk hk15
          have hok : Code.okAt s n = Code.stand (Code.sc2 kk) (Code.byt s n) := by
            unfold Code.okAt; rw [← unhide hop2, hm1, ← t1]; rfl
          have HK := hide hok
          clear hok t1 t2
          go_wp2
          go_quiet ((go_at_call 41; exact Calls.quiet_of_same (stands_ref _ _ _)))
          go_wp2
          · go_ret2
            exact ⟨ret_pair (Code.chk_bad h96 hlt (unhide HA) (by rw [unhide HK]; simpa using ‹(!Code.stand _ _) = true›)), below_drewN (unhide HB) _⟩
          · go_roundw
            case rel =>
              exact ⟨n + 1, kk, by omega, hkk, by go_num, rfl, fun _ => ⟨hk15, by rw [unhide hop2, show (n + 1) / 3 * 3 = n / 3 * 3 by omega]⟩, fun j hj => by
                    rcases Nat.lt_succ_iff_lt_or_eq.1 hj with h | h
                    · exact unhide HA j h
                    · rw [h, unhide HK]; simpa using ‹(!Code.stand _ _) = false›, below_drewN (unhide HB) _⟩
            case measure => simp [intOf]; omega
        · have hmj : ((n : Int) % 3 == 1) = false := beq_eq_false_iff_ne.2 (by omega)
          have hix := index_sc3 kk hk15
          have hok : Code.okAt s n = Code.stand (Code.sc3 kk) (Code.byt s n) := by
            unfold Code.okAt; rw [← unhide hop2, show n % 3 = 2 by omega, ← t2]; rfl
          have HK := hide hok
          clear hok t1 t2
          go_wp2
          go_quiet ((go_at_call 41; exact Calls.quiet_of_same (stands_ref _ _ _)))
          go_wp2
          · go_ret2
            exact ⟨ret_pair (Code.chk_bad h96 hlt (unhide HA) (by rw [unhide HK]; simpa using ‹(!Code.stand _ _) = true›)), below_drewN (unhide HB) _⟩
          · go_roundw
            case rel =>
              exact ⟨n + 1, kk, by omega, hkk, by go_num, rfl, fun h => absurd h (by omega), fun j hj => by
                    rcases Nat.lt_succ_iff_lt_or_eq.1 hj with h | h
                    · exact unhide HA j h
                    · rw [h, unhide HK]; simpa using ‹(!Code.stand _ _) = false›, below_drewN (unhide HB) _⟩
            case measure => simp [intOf]; omega
    · by_cases hm : s.size % 3 = 0
      · go_wp2
        go_ret2
        exact ⟨ret_pair (Code.chk_ok h96 (fun j hj => (unhide HA) j (by omega)) hm), unhide HB⟩
      · go_wp2
        go_ret2
        exact ⟨ret_pair (Code.chk_short h96 (fun j hj => (unhide HA) j (by omega)) hm), unhide HB⟩

set_option maxHeartbeats 400000 in
theorem check_api (s : ByteArray) (w : World) (hs : s.size ≤ maxLen) :
    Calls Tryz.prog 17 #[.string s] w fun e w' => e = .returned (.tuple #[.int .i64 (Code.chk s).1, .int .i64 (Code.chk s).2]) ∧ w' = w := by
  go_enter Tryz.func17, Tryz.ntmps17
  go_wp2_with (go_at_call 40; refine (check_code _ _ hs).mono ?_; rintro e w' ⟨rfl, rfl⟩)
  go_ret2
  exact ⟨rfl, rfl⟩

set_option maxHeartbeats 400000 in
theorem num_law (n : Int) (_hn : -9223372036854775808 ≤ n ∧ n ≤ 9223372036854775807) (w : World) :
    Calls Tryz.prog 19 #[.int .i64 n] w fun e w' => e = .returned (.int .i64 n) ∧ w' = w := by
  go_enter Tryz.func19, Tryz.ntmps19
  go_wp2
  go_ret
  exact ⟨rfl, rfl⟩
theorem chk_bound (s : ByteArray) : 0 ≤ (Code.chk s).1 ∧ (Code.chk s).1 ≤ 2 := by
  unfold Code.chk
  split
  · simp
  · split
    · simp
    · split <;> simp

set_option maxHeartbeats 400000 in
theorem checked_true (s : ByteArray) (w : World) (hs : s.size ≤ maxLen) :
    Calls Tryz.prog 7 #[.string s] w fun e w' => e = .returned (.bool true) ∧ Below w.heap.size w w' := by
  have hc := chk_bound s
  go_enter Tryz.func7, Tryz.ntmps7
  go_wp2_with (first | (go_at_call 19; refine (num_law _ (by omega) _).mono ?_; rintro e w' ⟨rfl, rfl⟩) | (go_at_call 17; refine (check_api _ _ hs).mono ?_; rintro e w' ⟨rfl, rfl⟩) | (go_at_call 18; refine (check_ref _ _ hs).mono ?_; rintro e w' ⟨rfl, hb⟩))
  go_ret
  exact ⟨by simp, hb⟩
end Go.Proofs.YtcmoffiigpchiabGreat
