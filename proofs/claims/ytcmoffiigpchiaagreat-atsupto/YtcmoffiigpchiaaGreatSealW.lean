import Derived.Test.YtcmoffiigpchiaaGreatLowW
import Derived.Test.YtcmoffiigpchiaaGreatSumW
import Derived.Deep.RegionHeld3
namespace Go.Proofs.YtcmoffiigpchiaaGreat
open Go.RowKit

def zc3 : Array Value := #[.int .u8 0, .int .u8 0, .int .u8 0]
def zc26 : Array Value := #[.int .u8 0, .int .u8 0, .int .u8 0, .int .u8 0, .int .u8 0, .int .u8 0, .int .u8 0, .int .u8 0, .int .u8 0, .int .u8 0, .int .u8 0, .int .u8 0, .int .u8 0, .int .u8 0, .int .u8 0, .int .u8 0, .int .u8 0, .int .u8 0, .int .u8 0, .int .u8 0, .int .u8 0, .int .u8 0, .int .u8 0, .int .u8 0, .int .u8 0, .int .u8 0]
def zc16 : Array Value := #[.int .u8 0, .int .u8 0, .int .u8 0, .int .u8 0, .int .u8 0, .int .u8 0, .int .u8 0, .int .u8 0, .int .u8 0, .int .u8 0, .int .u8 0, .int .u8 0, .int .u8 0, .int .u8 0, .int .u8 0, .int .u8 0]
theorem zeros_back (n : Nat) (C : Array Value) (hC : ∀ j, j < n → C[j]? = some (.int .u8 0)) (w : World) :
    (convert 111 9 (.slice (some ⟨w.heap.size, 0, none⟩) n n)).run Tryz.prog (w.alloc (.cells C 5)) = .ok (.string (Frame.zeroB n)) (w.alloc (.cells C 5)) := by
  have e := run_convert_bytes_back (P := Tryz.prog) (w.alloc (.cells C 5)) 111 9 5 ⟨w.heap.size, 0, none⟩ n (List.replicate n 0) Tryz.underlying111 Tryz.underlying5 Tryz.underlying9 ?_
  · rw [List.length_replicate] at e
    exact e
  · intro j hj
    rw [List.length_replicate] at hj
    rw [Addr.add_mid, Nat.zero_add, World.cell?_alloc_mark, hC j hj]
    simp
theorem zc3_at : ∀ j, j < 3 → zc3[j]? = some (.int .u8 0) := fun j hj => by
  rcases j with _ | _ | _ | j
  · rfl
  · rfl
  · rfl
  · omega

theorem make3 (w : World) : (Instr.makeSlice 111 (.int .i64 3) (.int .i64 3)).run Tryz.prog w = .ok (.slice (some ⟨w.heap.size, 0, none⟩) 3 3) (w.alloc (.cells zc3 5)) := by kernel_rfl
theorem make26 (w : World) : (Instr.makeSlice 111 (.int .i64 26) (.int .i64 26)).run Tryz.prog w = .ok (.slice (some ⟨w.heap.size, 0, none⟩) 26 26) (w.alloc (.cells zc26 5)) := by kernel_rfl
theorem make16 (w : World) : (Instr.makeSlice 111 (.int .i64 16) (.int .i64 16)).run Tryz.prog w = .ok (.slice (some ⟨w.heap.size, 0, none⟩) 16 16) (w.alloc (.cells zc16 5)) := by kernel_rfl
theorem repl_at (n : Nat) (v : Value) (j : Nat) (hj : j < n) : (Array.replicate n v)[j]? = some v := by simp [hj]
theorem zc26_eq : zc26 = Array.replicate 26 (.int .u8 0) := rfl
theorem zc16_eq : zc16 = Array.replicate 16 (.int .u8 0) := rfl

set_option maxHeartbeats 400000 in
theorem zeros3_ref (w : World) : Calls Tryz.prog 81 #[.int .i64 3] w fun e w' => e = .returned (.string (Frame.zeroB 3)) ∧ Below w.heap.size w w' := by
  have hm := make3
  have hb := zeros_back 3 zc3 zc3_at
  generalize zc3 = C at *
  go_enter Tryz.func81, Tryz.ntmps81
  go_wp2
  go_ret
  exact ⟨rfl, (Below.refl _ _).alloc (Nat.le_refl _) _⟩
set_option maxHeartbeats 400000 in
theorem zeros26_ref (w : World) : Calls Tryz.prog 81 #[.int .i64 26] w fun e w' => e = .returned (.string (Frame.zeroB 26)) ∧ Below w.heap.size w w' := by
  have hm := make26
  have hb := zeros_back 26 zc26 (fun j hj => by rw [zc26_eq]; exact repl_at 26 _ j hj)
  generalize zc26 = C at *
  go_enter Tryz.func81, Tryz.ntmps81
  go_wp2
  go_ret
  exact ⟨rfl, (Below.refl _ _).alloc (Nat.le_refl _) _⟩

set_option maxRecDepth 100000 in
set_option maxHeartbeats 1000000 in
theorem sealed_ref (s : ByteArray) (hs : s.size ≤ 1000) (w : World) :
    Calls Tryz.prog 82 #[.string s] w fun e w' => e = .returned (.string (Frame.sealed s)) ∧ Below w.heap.size w w' := by
  have hsum := Crc.sum_lt s.data.toList
  have H1 := hide (fun w => sum_ref s w (by unfold maxLen; omega))
  have H2 := hide (low_ref (Crc.sum s.data.toList) 4 (by omega) (by omega))
  have hz : ¬ 9223372036854775807 < s.size + (Frame.lowB (Crc.sum s.data.toList) 4).size := by rw [Frame.lowB_size]; omega
  have HF : Hid (Frame.sealed s = s ++ Frame.lowB (Crc.sum s.data.toList) 4) := rfl
  generalize Frame.lowB (Crc.sum s.data.toList) 4 = t at *
  generalize Crc.sum s.data.toList = u at *
  go_enter Tryz.func82, Tryz.ntmps82
  go_wp2_with (first | (go_at_call 30; refine (unhide H1 _).mono ?_; rintro e w' ⟨rfl, rfl⟩) | (go_at_call 79; refine (unhide H2 _).mono ?_; rintro e w1 ⟨rfl, hb⟩))
  go_ret
  exact ⟨by rw [HF.out]; rfl, hb⟩
end Go.Proofs.YtcmoffiigpchiaaGreat
