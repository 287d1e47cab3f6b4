import Derived.Test.YtcmoffiigpchiaaStP
import Derived.Test.YtcmoffiigpchiaaBase
namespace Go.Proofs.Ytcmoffiigpchiaa
open Go.RowKit

theorem one_byte' (n : Nat) (hn : n < 256) (w : World) :
    (convert 46 9 (.slice (some ⟨w.heap.size, 0, none⟩) 1 1)).run Try.prog (w.alloc (.cells #[.int .u8 n] 5)) = .ok (.string ⟨#[UInt8.ofNat n]⟩) (w.alloc (.cells #[.int .u8 n] 5)) := by
  refine run_convert_bytes_back (P := Try.prog) _ 46 9 5 ⟨w.heap.size, 0, none⟩ 1 [UInt8.ofNat n] Try.underlying46 Try.underlying5 Try.underlying9 ?_
  intro j hj
  have hj0 : j = 0 := by simpa using hj
  subst hj0
  have : (UInt8.ofNat n).toNat = n := by simp; omega
  rw [Addr.add_mid, Nat.zero_add, World.cell?_alloc_mark]
  simp [this]

end Go.Proofs.Ytcmoffiigpchiaa
