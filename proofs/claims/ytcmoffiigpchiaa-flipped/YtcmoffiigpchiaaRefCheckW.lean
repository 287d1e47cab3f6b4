import Derived.Test.YtcmoffiigpchiaaCheckW
import Derived.Deep.RegionWith
namespace Go.Proofs.Ytcmoffiigpchiaa
open Go.RowKit


theorem index_tab (s : ByteArray) (f : Nat → Nat) (n : Nat) (hs : s.size = n) (hf : ∀ (i : Nat) (h : i < s.size), s[i].toNat = f i) (k : Nat) (hk : k < n) (w : World) :
    (Instr.index 9 (.string s) (.int .i64 k)).run Try.prog w = .ok (.int .u8 (f k : Nat)) w := by
  rw [run_index_string w 9 s .i64 _ Try.underlying9, dif_pos ⟨by omega, by omega⟩]
  have := hf k (by omega)
  simp [this]
theorem index_sg (k : Nat) (hk : k < 15) (w : World) :
    (Instr.index 9 (.string ⟨#[61, 43, 45, 60, 62, 40, 41, 63, 35, 106, 122, 105, 109, 101, 104]⟩) (.int .i64 k)).run Try.prog w = .ok (.int .u8 (Code.sg k : Nat)) w :=
  index_tab _ Code.sg 15 rfl (by decide) k hk w
theorem index_sc2 (k : Nat) (hk : k < 15) (w : World) :
    (Instr.index 9 (.string ⟨#[114, 114, 114, 114, 114, 114, 114, 114, 114, 46, 114, 46, 46, 46, 46]⟩) (.int .i64 k)).run Try.prog w = .ok (.int .u8 (Code.sc2 k : Nat)) w :=
  index_tab _ Code.sc2 15 rfl (by decide) k hk w
theorem index_sc3 (k : Nat) (hk : k < 15) (w : World) :
    (Instr.index 9 (.string ⟨#[100, 114, 114, 100, 100, 114, 114, 46, 46, 112, 112, 112, 46, 46, 46]⟩) (.int .i64 k)).run Try.prog w = .ok (.int .u8 (Code.sc3 k : Nat)) w :=
  index_tab _ Code.sc3 15 rfl (by decide) k hk w

theorem chk_bound (s : ByteArray) : 0 ≤ (Code.chk s).1 ∧ (Code.chk s).1 ≤ 2 := by
  unfold Code.chk
  split
  · simp
  · split
    · simp
    · split <;> simp

end Go.Proofs.Ytcmoffiigpchiaa
