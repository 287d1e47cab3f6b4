import Derived.Test.YtcmoffiigpchiaaGreatStP
import Derived.Test.YtcmoffiigpchiaaGreatBase
import Derived.Test.YtcmoffiigpchiaaGreatSumW
import Derived.Deep.RegionHeld3
namespace Go.Proofs.YtcmoffiigpchiaaGreat
open Go.RowKit

theorem one_byte' (n : Nat) (hn : n < 256) (w : World) :
    (convert 111 9 (.slice (some ⟨w.heap.size, 0, none⟩) 1 1)).run Tryz.prog (w.alloc (.cells #[.int .u8 n] 5)) = .ok (.string ⟨#[UInt8.ofNat n]⟩) (w.alloc (.cells #[.int .u8 n] 5)) := by
  refine run_convert_bytes_back (P := Tryz.prog) _ 111 9 5 ⟨w.heap.size, 0, none⟩ 1 [UInt8.ofNat n] Tryz.underlying111 Tryz.underlying5 Tryz.underlying9 ?_
  intro j hj
  have hj0 : j = 0 := by simpa using hj
  subst hj0
  have : (UInt8.ofNat n).toNat = n := by simp; omega
  rw [Addr.add_mid, Nat.zero_add, World.cell?_alloc_mark]
  simp [this]

set_option maxRecDepth 100000 in
set_option maxHeartbeats 1000000 in
theorem low_ref (v size : Nat) (hv : v < 9223372036854775807) (hs : size ≤ 4) (w : World) :
    Calls Tryz.prog 79 #[.int .i64 v, .int .i64 size] w fun e w' => e = .returned (.string (Frame.lowB v size)) ∧ Below w.heap.size w w' := by
  go_enter Tryz.func79, Tryz.ntmps79
  go_wp2
  go_loopw [0, 5, 6] (fun x t i wr => ∃ k : Nat, k ≤ size ∧ i = .int .i64 k ∧ x = .int .i64 (v / 256 ^ k : Nat) ∧ t = .string (Frame.lowB v k) ∧ Below w.heap.size w wr) (fun _ _ i _ => size - (intOf i).toNat)
  case atStart => exact ⟨0, Nat.zero_le _, rfl, by simp, rfl, Below.refl _ _⟩
  case round =>
    obtain ⟨k, hk, rfl, rfl, rfl, hb⟩ := hrel
    by_cases hlt : k < size
    · have hu : v / 256 ^ k ≤ v := Nat.div_le_self _ _
      have HS : Hid (Frame.lowB v (k + 1) = Frame.lowB v k ++ ⟨#[UInt8.ofNat (v / 256 ^ k % 256)]⟩) := hide (Frame.lowB_succ v k)
      have HD : Hid (v / 256 ^ (k + 1) = v / 256 ^ k / 256) := hide (by rw [Nat.pow_succ, Nat.div_div_eq_div_mul])
      generalize v / 256 ^ k = u at *
      have hm : (u : Int) % 256 = ((u % 256 : Nat) : Int) := by omega
      have hml : u % 256 < 256 := by omega
      generalize u % 256 = m at *
      have hcv := one_byte' m hml
      have hz : ¬ 9223372036854775807 < (Frame.lowB v k).size + 1 := by rw [Frame.lowB_size]; omega
      have HB := hide hb
      clear hb
      go_wp2
      go_roundw
      case rel => exact ⟨k + 1, by omega, by go_num, by rw [HD.out]; go_num, by rw [HS.out], (unhide HB).alloc (unhide HB).size _⟩
      case measure => simp [intOf]; omega
    · have hkz : k = size := by omega
      subst hkz
      go_wp2
      go_ret
      exact ⟨rfl, hb⟩

set_option maxHeartbeats 400000 in
theorem bit_ref (b : Bool) (w : World) :
    Calls Tryz.prog 80 #[.bool b] w fun e w' => e = .returned (.int .i64 (Frame.bitN b : Nat)) ∧ w' = w := by
  cases b
  · go_enter Tryz.func80, Tryz.ntmps80
    go_wp2
    go_ret
    exact ⟨rfl, rfl⟩
  · go_enter Tryz.func80, Tryz.ntmps80
    go_wp2
    go_ret
    exact ⟨rfl, rfl⟩

set_option maxRecDepth 100000 in
set_option maxHeartbeats 1000000 in
theorem high_ref (s : ByteArray) (hs : s.size ≤ 4) (w : World) :
    Calls Tryz.prog 87 #[.string s] w fun e w' => e = .returned (.int .i64 (Frame.highN s : Nat)) ∧ w' = w := by
  go_enter Tryz.func87, Tryz.ntmps87
  go_wp2
  go_loop [3, 4] (fun x i => ∃ k : Nat, k ≤ s.size ∧ i = .int .i64 ((k : Int) - 1) ∧ x = .int .i64 (Frame.highFrom s k : Nat)) (fun _ i => ((intOf i) + 1).toNat)
  case atStart => exact ⟨s.size, Nat.le_refl _, rfl, by rw [Frame.highFrom_size]; rfl⟩
  case round =>
    obtain ⟨k, hk, rfl, rfl⟩ := hrel
    by_cases h0 : k = 0
    · subst h0
      go_wp2
      go_ret
      exact ⟨rfl, rfl⟩
    · obtain ⟨j, rfl⟩ : ∃ j, k = j + 1 := ⟨k - 1, by omega⟩
      have hf := Frame.highFrom_lt s (j + 1)
      have hfb : Frame.highFrom s (j + 1) < 256 ^ 4 := Nat.lt_of_lt_of_le hf (Nat.pow_le_pow_right (by omega) (by omega))
      have HS := hide (Frame.highFrom_succ s j (by omega))
      have hb := Code.byt_eq s j (by omega)
      have hbl := Code.byt_lt s j
      generalize Frame.highFrom s (j + 1) = u at *
      have hu : u < 4294967296 := hfb
      clear hf hfb h0
      have hj1 : ((j + 1 : Nat) : Int) - 1 = (j : Int) := by omega
      rw [hj1]
      go_wp2
      go_round
      case rel => exact ⟨j, by omega, by go_num, by rw [HS.out]; go_num⟩
      case measure => simp [intOf]
end Go.Proofs.YtcmoffiigpchiaaGreat

namespace Go.Proofs.YtcmoffiigpchiaaGreat
open Go.RowKit

def zc3 : Array Value := #[.int .u8 0, .int .u8 0, .int .u8 0]
def zc26 : Array Value := #[.int .u8 0, .int .u8 0, .int .u8 0, .int .u8 0, .int .u8 0, .int .u8 0, .int .u8 0, .int .u8 0, .int .u8 0, .int .u8 0, .int .u8 0, .int .u8 0, .int .u8 0, .int .u8 0, .int .u8 0, .int .u8 0, .int .u8 0, .int .u8 0, .int .u8 0, .int .u8 0, .int .u8 0, .int .u8 0, .int .u8 0, .int .u8 0, .int .u8 0, .int .u8 0]
def zc16 : Array Value := #[.int .u8 0, .int .u8 0, .int .u8 0, .int .u8 0, .int .u8 0, .int .u8 0, .int .u8 0, .int .u8 0, .int .u8 0, .int .u8 0, .int .u8 0, .int .u8 0, .int .u8 0, .int .u8 0, .int .u8 0, .int .u8 0]
theorem zeros_back (n : Nat) (C : Array Value) (hC : ∀ j, j < n → C[j]? = some (.int .u8 0)) (w : World) :
    (convert 111 9 (.slice (some ⟨w.heap.size, 0, none⟩) n n)).run Tryz.prog (w.alloc (.cells C 5)) = .ok (.string (Frame.zeroB n)) (w.alloc (.cells C 5)) := by
  have e := run_convert_bytes_back (P := Tryz.prog) (w.alloc (.cells C 5)) 111 9 5 ⟨w.heap.size, 0, none⟩ n (List.replicate n 0) Tryz.underlying111 Tryz.underlying5 Tryz.underlying9 ?_
  · rw [List.length_replicate] at e
    exact e
  · intro j hj
    rw [List.length_replicate] at hj
    rw [Addr.add_mid, Nat.zero_add, World.cell?_alloc_mark, hC j hj]
    simp
theorem zc3_at : ∀ j, j < 3 → zc3[j]? = some (.int .u8 0) := fun j hj => by
  rcases j with _ | _ | _ | j
  · rfl
  · rfl
  · rfl
  · omega

theorem make3 (w : World) : (Instr.makeSlice 111 (.int .i64 3) (.int .i64 3)).run Tryz.prog w = .ok (.slice (some ⟨w.heap.size, 0, none⟩) 3 3) (w.alloc (.cells zc3 5)) := by kernel_rfl
theorem make26 (w : World) : (Instr.makeSlice 111 (.int .i64 26) (.int .i64 26)).run Tryz.prog w = .ok (.slice (some ⟨w.heap.size, 0, none⟩) 26 26) (w.alloc (.cells zc26 5)) := by kernel_rfl
theorem make16 (w : World) : (Instr.makeSlice 111 (.int .i64 16) (.int .i64 16)).run Tryz.prog w = .ok (.slice (some ⟨w.heap.size, 0, none⟩) 16 16) (w.alloc (.cells zc16 5)) := by kernel_rfl
theorem repl_at (n : Nat) (v : Value) (j : Nat) (hj : j < n) : (Array.replicate n v)[j]? = some v := by simp [hj]
theorem zc26_eq : zc26 = Array.replicate 26 (.int .u8 0) := rfl
theorem zc16_eq : zc16 = Array.replicate 16 (.int .u8 0) := rfl

set_option maxHeartbeats 400000 in
theorem zeros3_ref (w : World) : Calls Tryz.prog 81 #[.int .i64 3] w fun e w' => e = .returned (.string (Frame.zeroB 3)) ∧ Below w.heap.size w w' := by
  have hm := make3
  have hb := zeros_back 3 zc3 zc3_at
  generalize zc3 = C at *
  go_enter Tryz.func81, Tryz.ntmps81
  go_wp2
  go_ret
  exact ⟨rfl, (Below.refl _ _).alloc (Nat.le_refl _) _⟩
set_option maxHeartbeats 400000 in
theorem zeros26_ref (w : World) : Calls Tryz.prog 81 #[.int .i64 26] w fun e w' => e = .returned (.string (Frame.zeroB 26)) ∧ Below w.heap.size w w' := by
  have hm := make26
  have hb := zeros_back 26 zc26 (fun j hj => by rw [zc26_eq]; exact repl_at 26 _ j hj)
  generalize zc26 = C at *
  go_enter Tryz.func81, Tryz.ntmps81
  go_wp2
  go_ret
  exact ⟨rfl, (Below.refl _ _).alloc (Nat.le_refl _) _⟩

set_option maxRecDepth 100000 in
set_option maxHeartbeats 1000000 in
theorem sealed_ref (s : ByteArray) (hs : s.size ≤ 1000) (w : World) :
    Calls Tryz.prog 82 #[.string s] w fun e w' => e = .returned (.string (Frame.sealed s)) ∧ Below w.heap.size w w' := by
  have hsum := Crc.sum_lt s.data.toList
  have H1 := hide (fun w => sum_ref s w (by unfold maxLen; omega))
  have H2 := hide (low_ref (Crc.sum s.data.toList) 4 (by omega) (by omega))
  have hz : ¬ 9223372036854775807 < s.size + (Frame.lowB (Crc.sum s.data.toList) 4).size := by rw [Frame.lowB_size]; omega
  have HF : Hid (Frame.sealed s = s ++ Frame.lowB (Crc.sum s.data.toList) 4) := rfl
  generalize Frame.lowB (Crc.sum s.data.toList) 4 = t at *
  generalize Crc.sum s.data.toList = u at *
  go_enter Tryz.func82, Tryz.ntmps82
  go_wp2_with (first | (go_at_call 30; refine (unhide H1 _).mono ?_; rintro e w' ⟨rfl, rfl⟩) | (go_at_call 79; refine (unhide H2 _).mono ?_; rintro e w1 ⟨rfl, hb⟩))
  go_ret
  exact ⟨by rw [HF.out]; rfl, hb⟩
end Go.Proofs.YtcmoffiigpchiaaGreat
