import Derived.Test.YtcmoffiigpchiabGreatBase
namespace Go.Proofs.YtcmoffiigpchiabGreat
open Go.RowKit

theorem and_one_i64 (u : Nat) (h : u < 4294967296) : bits .and .i64 (u : Int) 1 = ((u % 2 : Nat) : Int) := by
  rw [← Crc.and_one]; exact i64_and_nat u 1 (by omega) (by omega)
theorem xor_poly_i64 (u : Nat) (h : u < 4294967296) : bits .xor .i64 ((u : Int) / 2) 3988292384 = ((u / 2 ^^^ 3988292384 : Nat) : Int) :=
  i64_xor_nat (u / 2) 3988292384 (by omega) (by omega)
theorem xor_ones_i64 (u : Nat) (h : u < 4294967296) : bits .xor .i64 (u : Int) 4294967295 = ((4294967295 - u : Nat) : Int) := by
  rw [← Crc.flip h]; exact i64_xor_nat u 4294967295 (by omega) (by omega)
theorem one_odd {u : Nat} (h : (((u % 2 : Nat) : Int) == 1) = true) : Crc.one u = u / 2 ^^^ 3988292384 := by
  have : u % 2 = 1 := by have := beq_iff_eq.1 h; omega
  simp [Crc.one, this]
theorem one_even {u : Nat} (h : (((u % 2 : Nat) : Int) == 1) = false) : Crc.one u = u / 2 := by
  have : ¬ u % 2 = 1 := by have := beq_eq_false_iff_ne.1 h; omega
  simp [Crc.one, this]

set_option maxHeartbeats 400000 in
theorem sum_code (s : ByteArray) (w : World) (hs : s.size ≤ maxLen) :
    Calls Tryz.prog 46 #[.string s] w fun e w' => e = .returned (.int .i64 (Crc.sum s.data.toList : Nat)) ∧ w' = w := by
  unfold maxLen at hs
  go_enter Tryz.func46, Tryz.ntmps46
  go_wp2
  go_loop [3, 4] (fun n i => ∃ k : Nat, k ≤ s.size ∧ i = .int .i64 k ∧ n = .int .i64 (Crc.over 4294967295 (s.data.toList.take k) : Nat)) (fun _ i => s.size - (intOf i).toNat)
  case atStart => exact ⟨0, Nat.zero_le _, rfl, rfl⟩
  case round =>
    obtain ⟨k, hk, rfl, rfl⟩ := hrel
    have hv : Crc.over 4294967295 (s.data.toList.take k) < 4294967296 := Crc.over_lt _ (by omega)
    by_cases hlt : k < s.size
    · have hb : s[k].toNat < 256 := s[k].toNat_lt
      have HV : Hid (Crc.over 4294967295 (s.data.toList.take (k + 1)) = Crc.byte (Crc.over 4294967295 (s.data.toList.take k)) s[k].toNat) := by
        show _ = _
        rw [take_snoc s k hlt, Crc.over_snoc]
      generalize Crc.over 4294967295 (s.data.toList.take k) = v at *
      have hx := i64_xor_nat v s[k].toNat (by omega) (by omega)
      have hl := Crc.xor_byte_lt hv hb
      go_wp2
      go_loop [3, 5] (fun n i => ∃ j : Nat, j ≤ 8 ∧ i = .int .i64 j ∧ n = .int .i64 (Crc.many j (v ^^^ s[k].toNat) : Nat)) (fun _ i => 8 - (intOf i).toNat)
      case atStart => exact ⟨0, Nat.zero_le _, rfl, rfl⟩
      case round =>
        obtain ⟨j, hj, rfl, rfl⟩ := hrel
        have hm := Crc.many_lt j hl
        by_cases hjl : j < 8
        · have HM : Hid (Crc.many (j + 1) (v ^^^ s[k].toNat) = Crc.one (Crc.many j (v ^^^ s[k].toNat))) := rfl
          generalize Crc.many j (v ^^^ s[k].toNat) = u at *
          have ha := and_one_i64 u hm
          have hx2 := xor_poly_i64 u hm
          go_wp2
          · go_round
            case rel => exact ⟨j + 1, by omega, by go_num, by rw [HM.out, one_odd ‹_›]⟩
            case measure => simp [intOf]; omega
          · go_round
            case rel => exact ⟨j + 1, by omega, by go_num, by rw [HM.out, one_even ‹_›]; go_num⟩
            case measure => simp [intOf]; omega
        · have hj8 : j = 8 := by omega
          subst hj8
          go_wp2
          go_round
          case rel => exact ⟨k + 1, by omega, by go_num, by rw [HV.out]; rfl⟩
          case measure => simp [intOf]; omega
    · have hxo := xor_ones_i64 _ hv
      go_wp2
      go_ret
      exact ⟨ret_int (by rw [List.take_of_length_le (by simp; omega)]; rfl), rfl⟩

theorem pair_odd {v b : Nat} (h : (((v : Int) + (b : Int)) % 2 == 1) = true) : Crc.pairStep v b = v / 2 ^^^ 3988292384 := by
  have : (v + b) % 2 = 1 := by have := beq_iff_eq.1 h; omega
  simp [Crc.pairStep, this]
theorem pair_even {v b : Nat} (h : (((v : Int) + (b : Int)) % 2 == 1) = false) : Crc.pairStep v b = v / 2 := by
  have : ¬ (v + b) % 2 = 1 := by have := beq_eq_false_iff_ne.1 h; omega
  simp [Crc.pairStep, this]

set_option maxHeartbeats 400000 in
theorem sum_ref (s : ByteArray) (w : World) (hs : s.size ≤ maxLen) :
    Calls Tryz.prog 24 #[.string s] w fun e w' => e = .returned (.int .i64 (Crc.sum s.data.toList : Nat)) ∧ w' = w := by
  unfold maxLen at hs
  go_enter Tryz.func24, Tryz.ntmps24
  go_wp2
  go_loop [3, 4] (fun n i => ∃ k : Nat, k ≤ s.size ∧ i = .int .i64 k ∧ n = .int .i64 (Crc.over 4294967295 (s.data.toList.take k) : Nat)) (fun _ i => s.size - (intOf i).toNat)
  case atStart => exact ⟨0, Nat.zero_le _, rfl, rfl⟩
  case round =>
    obtain ⟨k, hk, rfl, rfl⟩ := hrel
    have hv : Crc.over 4294967295 (s.data.toList.take k) < 4294967296 := Crc.over_lt _ (by omega)
    by_cases hlt : k < s.size
    · have hb : s[k].toNat < 256 := s[k].toNat_lt
      have HV : Hid (Crc.over 4294967295 (s.data.toList.take (k + 1)) = Crc.byte (Crc.over 4294967295 (s.data.toList.take k)) s[k].toNat) := by
        show _ = _
        rw [take_snoc s k hlt, Crc.over_snoc]
      generalize Crc.over 4294967295 (s.data.toList.take k) = v at *
      go_wp2
      go_loop [3, 5, 6] (fun n c i => ∃ j x y : Nat, j ≤ 8 ∧ i = .int .i64 j ∧ n = .int .i64 (x : Nat) ∧ c = .int .i64 (y : Nat) ∧ x < 4294967296 ∧ y < 2 ^ (8 - j) ∧ x ^^^ y = Crc.many j (v ^^^ s[k].toNat)) (fun _ _ i => 8 - (intOf i).toNat)
      case atStart => exact ⟨0, v, s[k].toNat, Nat.zero_le _, rfl, rfl, rfl, hv, hb, rfl⟩
      case round =>
        obtain ⟨j, x, y, hj, rfl, rfl, rfl, hx, hy, HE⟩ := hrel
        by_cases hjl : j < 8
        · have hy2 : y / 2 < 2 ^ (8 - (j + 1)) := by
            rw [show 8 - j = (8 - (j + 1)) + 1 by omega, Nat.pow_succ] at hy; omega
          have hy3 : y < 256 := Nat.lt_of_lt_of_le hy (by
            have := Nat.pow_le_pow_right (n := 2) (by omega) (show 8 - j ≤ 8 by omega)
            simpa using this)
          have HM : Hid (Crc.pairStep x y ^^^ (y / 2) = Crc.many (j + 1) (v ^^^ s[k].toNat) ∧ y / 2 < 2 ^ (8 - (j + 1))) := ⟨by rw [Crc.pair_one, HE]; rfl, hy2⟩
          have hp := Crc.pair_lt y hx
          clear HE hy hy2
          have hx2 := xor_poly_i64 x hx
          go_wp2
          · go_round
            case rel => exact ⟨j + 1, Crc.pairStep x y, y / 2, by omega, by go_num, by rw [pair_odd ‹_›], by go_num, hp, HM.out.2, HM.out.1⟩
            case measure => simp [intOf]; omega
          · go_round
            case rel => exact ⟨j + 1, Crc.pairStep x y, y / 2, by omega, by go_num, by rw [pair_even ‹_›]; go_num, by go_num, hp, HM.out.2, HM.out.1⟩
            case measure => simp [intOf]; omega
        · have hj8 : j = 8 := by omega
          subst hj8
          have hy0 : y = 0 := by simpa using hy
          subst hy0
          have HX : Hid (x = Crc.byte v s[k].toNat) := hide (by simpa [Crc.byte] using HE)
          clear HE
          go_wp2
          go_round
          case rel => exact ⟨k + 1, by omega, by go_num, by rw [HV.out, HX.out]⟩
          case measure => simp [intOf]; omega
    · go_wp2
      go_ret
      exact ⟨ret_int (by rw [List.take_of_length_le (by simp; omega)] at *; simp only [Crc.sum]; omega), rfl⟩

set_option maxHeartbeats 400000 in
theorem sum_api (s : ByteArray) (w : World) (hs : s.size ≤ maxLen) :
    Calls Tryz.prog 23 #[.string s] w fun e w' => e = .returned (.int .i64 (Crc.sum s.data.toList : Nat)) ∧ w' = w := by
  go_enter Tryz.func23, Tryz.ntmps23
  go_wp2_with (go_at_call 46; refine (sum_code _ _ hs).mono ?_; rintro e w' ⟨rfl, rfl⟩)
  go_ret
  exact ⟨rfl, rfl⟩

set_option maxHeartbeats 400000 in
theorem summed_true (s : ByteArray) (w : World) (hs : s.size ≤ maxLen) :
    Calls Tryz.prog 9 #[.string s] w fun e w' => e = .returned (.bool true) ∧ w' = w := by
  go_enter Tryz.func9, Tryz.ntmps9
  go_wp2_with (first | (go_at_call 23; refine (sum_api _ _ hs).mono ?_; rintro e w' ⟨rfl, rfl⟩) | (go_at_call 24; refine (sum_ref _ _ hs).mono ?_; rintro e w' ⟨rfl, rfl⟩))
  go_ret
  exact ⟨by simp, rfl⟩
end Go.Proofs.YtcmoffiigpchiabGreat
