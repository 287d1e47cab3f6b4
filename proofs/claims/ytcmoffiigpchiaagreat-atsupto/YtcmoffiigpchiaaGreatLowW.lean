import Derived.Test.YtcmoffiigpchiaaGreatStP
import Derived.Test.YtcmoffiigpchiaaGreatBase
namespace Go.Proofs.YtcmoffiigpchiaaGreat
open Go.RowKit

theorem one_byte' (n : Nat) (hn : n < 256) (w : World) :
    (convert 111 9 (.slice (some ⟨w.heap.size, 0, none⟩) 1 1)).run Tryz.prog (w.alloc (.cells #[.int .u8 n] 5)) = .ok (.string ⟨#[UInt8.ofNat n]⟩) (w.alloc (.cells #[.int .u8 n] 5)) := by
  refine run_convert_bytes_back (P := Tryz.prog) _ 111 9 5 ⟨w.heap.size, 0, none⟩ 1 [UInt8.ofNat n] Tryz.underlying111 Tryz.underlying5 Tryz.underlying9 ?_
  intro j hj
  have hj0 : j = 0 := by simpa using hj
  subst hj0
  have : (UInt8.ofNat n).toNat = n := by simp; omega
  rw [Addr.add_mid, Nat.zero_add, World.cell?_alloc_mark]
  simp [this]

set_option maxRecDepth 100000 in
set_option maxHeartbeats 1000000 in
theorem low_ref (v size : Nat) (hv : v < 9223372036854775807) (hs : size ≤ 4) (w : World) :
    Calls Tryz.prog 79 #[.int .i64 v, .int .i64 size] w fun e w' => e = .returned (.string (Frame.lowB v size)) ∧ Below w.heap.size w w' := by
  go_enter Tryz.func79, Tryz.ntmps79
  go_wp2
  go_loopw [0, 5, 6] (fun x t i wr => ∃ k : Nat, k ≤ size ∧ i = .int .i64 k ∧ x = .int .i64 (v / 256 ^ k : Nat) ∧ t = .string (Frame.lowB v k) ∧ Below w.heap.size w wr) (fun _ _ i _ => size - (intOf i).toNat)
  case atStart => exact ⟨0, Nat.zero_le _, rfl, by simp, rfl, Below.refl _ _⟩
  case round =>
    obtain ⟨k, hk, rfl, rfl, rfl, hb⟩ := hrel
    by_cases hlt : k < size
    · have hu : v / 256 ^ k ≤ v := Nat.div_le_self _ _
      have HS : Hid (Frame.lowB v (k + 1) = Frame.lowB v k ++ ⟨#[UInt8.ofNat (v / 256 ^ k % 256)]⟩) := hide (Frame.lowB_succ v k)
      have HD : Hid (v / 256 ^ (k + 1) = v / 256 ^ k / 256) := hide (by rw [Nat.pow_succ, Nat.div_div_eq_div_mul])
      generalize v / 256 ^ k = u at *
      have hm : (u : Int) % 256 = ((u % 256 : Nat) : Int) := by omega
      have hml : u % 256 < 256 := by omega
      generalize u % 256 = m at *
      have hcv := one_byte' m hml
      have hz : ¬ 9223372036854775807 < (Frame.lowB v k).size + 1 := by rw [Frame.lowB_size]; omega
      have HB := hide hb
      clear hb
      go_wp2
      go_roundw
      case rel => exact ⟨k + 1, by omega, by go_num, by rw [HD.out]; go_num, by rw [HS.out], (unhide HB).alloc (unhide HB).size _⟩
      case measure => simp [intOf]; omega
    · have hkz : k = size := by omega
      subst hkz
      go_wp2
      go_ret
      exact ⟨rfl, hb⟩

set_option maxHeartbeats 400000 in
theorem bit_ref (b : Bool) (w : World) :
    Calls Tryz.prog 80 #[.bool b] w fun e w' => e = .returned (.int .i64 (Frame.bitN b : Nat)) ∧ w' = w := by
  cases b
  · go_enter Tryz.func80, Tryz.ntmps80
    go_wp2
    go_ret
    exact ⟨rfl, rfl⟩
  · go_enter Tryz.func80, Tryz.ntmps80
    go_wp2
    go_ret
    exact ⟨rfl, rfl⟩

set_option maxRecDepth 100000 in
set_option maxHeartbeats 1000000 in
theorem high_ref (s : ByteArray) (hs : s.size ≤ 4) (w : World) :
    Calls Tryz.prog 87 #[.string s] w fun e w' => e = .returned (.int .i64 (Frame.highN s : Nat)) ∧ w' = w := by
  go_enter Tryz.func87, Tryz.ntmps87
  go_wp2
  go_loop [3, 4] (fun x i => ∃ k : Nat, k ≤ s.size ∧ i = .int .i64 ((k : Int) - 1) ∧ x = .int .i64 (Frame.highFrom s k : Nat)) (fun _ i => ((intOf i) + 1).toNat)
  case atStart => exact ⟨s.size, Nat.le_refl _, rfl, by rw [Frame.highFrom_size]; rfl⟩
  case round =>
    obtain ⟨k, hk, rfl, rfl⟩ := hrel
    by_cases h0 : k = 0
    · subst h0
      go_wp2
      go_ret
      exact ⟨rfl, rfl⟩
    · obtain ⟨j, rfl⟩ : ∃ j, k = j + 1 := ⟨k - 1, by omega⟩
      have hf := Frame.highFrom_lt s (j + 1)
      have hfb : Frame.highFrom s (j + 1) < 256 ^ 4 := Nat.lt_of_lt_of_le hf (Nat.pow_le_pow_right (by omega) (by omega))
      have HS := hide (Frame.highFrom_succ s j (by omega))
      have hb := Code.byt_eq s j (by omega)
      have hbl := Code.byt_lt s j
      generalize Frame.highFrom s (j + 1) = u at *
      have hu : u < 4294967296 := hfb
      clear hf hfb h0
      have hj1 : ((j + 1 : Nat) : Int) - 1 = (j : Int) := by omega
      rw [hj1]
      go_wp2
      go_round
      case rel => exact ⟨j, by omega, by go_num, by rw [HS.out]; go_num⟩
      case measure => simp [intOf]
end Go.Proofs.YtcmoffiigpchiaaGreat
