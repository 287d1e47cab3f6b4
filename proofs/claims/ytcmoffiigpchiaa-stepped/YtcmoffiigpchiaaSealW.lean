import Derived.Test.YtcmoffiigpchiaaStP
import Derived.Test.YtcmoffiigpchiaaBase
import Derived.Test.YtcmoffiigpchiaaSumW
import Derived.Deep.RegionHeld3
namespace Go.Proofs.Ytcmoffiigpchiaa
open Go.RowKit

theorem one_byte' (n : Nat) (hn : n < 256) (w : World) :
    (convert 46 9 (.slice (some ⟨w.heap.size, 0, none⟩) 1 1)).run Try.prog (w.alloc (.cells #[.int .u8 n] 5)) = .ok (.string ⟨#[UInt8.ofNat n]⟩) (w.alloc (.cells #[.int .u8 n] 5)) := by
  refine run_convert_bytes_back (P := Try.prog) _ 46 9 5 ⟨w.heap.size, 0, none⟩ 1 [UInt8.ofNat n] Try.underlying46 Try.underlying5 Try.underlying9 ?_
  intro j hj
  have hj0 : j = 0 := by simpa using hj
  subst hj0
  have : (UInt8.ofNat n).toNat = n := by simp; omega
  rw [Addr.add_mid, Nat.zero_add, World.cell?_alloc_mark]
  simp [this]

end Go.Proofs.Ytcmoffiigpchiaa

namespace Go.Proofs.Ytcmoffiigpchiaa
open Go.RowKit

def zc3 : Array Value := #[.int .u8 0, .int .u8 0, .int .u8 0]
def zc26 : Array Value := #[.int .u8 0, .int .u8 0, .int .u8 0, .int .u8 0, .int .u8 0, .int .u8 0, .int .u8 0, .int .u8 0, .int .u8 0, .int .u8 0, .int .u8 0, .int .u8 0, .int .u8 0, .int .u8 0, .int .u8 0, .int .u8 0, .int .u8 0, .int .u8 0, .int .u8 0, .int .u8 0, .int .u8 0, .int .u8 0, .int .u8 0, .int .u8 0, .int .u8 0, .int .u8 0]
def zc16 : Array Value := #[.int .u8 0, .int .u8 0, .int .u8 0, .int .u8 0, .int .u8 0, .int .u8 0, .int .u8 0, .int .u8 0, .int .u8 0, .int .u8 0, .int .u8 0, .int .u8 0, .int .u8 0, .int .u8 0, .int .u8 0, .int .u8 0]
theorem zeros_back (n : Nat) (C : Array Value) (hC : ∀ j, j < n → C[j]? = some (.int .u8 0)) (w : World) :
    (convert 46 9 (.slice (some ⟨w.heap.size, 0, none⟩) n n)).run Try.prog (w.alloc (.cells C 5)) = .ok (.string (Frame.zeroB n)) (w.alloc (.cells C 5)) := by
  have e := run_convert_bytes_back (P := Try.prog) (w.alloc (.cells C 5)) 46 9 5 ⟨w.heap.size, 0, none⟩ n (List.replicate n 0) Try.underlying46 Try.underlying5 Try.underlying9 ?_
  · rw [List.length_replicate] at e
    exact e
  · intro j hj
    rw [List.length_replicate] at hj
    rw [Addr.add_mid, Nat.zero_add, World.cell?_alloc_mark, hC j hj]
    simp
theorem zc3_at : ∀ j, j < 3 → zc3[j]? = some (.int .u8 0) := fun j hj => by
  rcases j with _ | _ | _ | j
  · rfl
  · rfl
  · rfl
  · omega

theorem make3 (w : World) : (Instr.makeSlice 46 (.int .i64 3) (.int .i64 3)).run Try.prog w = .ok (.slice (some ⟨w.heap.size, 0, none⟩) 3 3) (w.alloc (.cells zc3 5)) := by kernel_rfl
theorem make26 (w : World) : (Instr.makeSlice 46 (.int .i64 26) (.int .i64 26)).run Try.prog w = .ok (.slice (some ⟨w.heap.size, 0, none⟩) 26 26) (w.alloc (.cells zc26 5)) := by kernel_rfl
theorem make16 (w : World) : (Instr.makeSlice 46 (.int .i64 16) (.int .i64 16)).run Try.prog w = .ok (.slice (some ⟨w.heap.size, 0, none⟩) 16 16) (w.alloc (.cells zc16 5)) := by kernel_rfl
theorem repl_at (n : Nat) (v : Value) (j : Nat) (hj : j < n) : (Array.replicate n v)[j]? = some v := by simp [hj]
theorem zc26_eq : zc26 = Array.replicate 26 (.int .u8 0) := rfl
theorem zc16_eq : zc16 = Array.replicate 16 (.int .u8 0) := rfl

end Go.Proofs.Ytcmoffiigpchiaa
