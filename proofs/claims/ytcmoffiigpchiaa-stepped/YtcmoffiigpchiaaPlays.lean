import Derived.Test.YtcmoffiigpchiaaBase
import Derived.Deep.MidRow
namespace Go.Proofs.Ytcmoffiigpchiaa
open Go.RowKit

theorem bel_alloc {w w' : World} {o : Obj} (h : Below (w.alloc o).heap.size (w.alloc o) w') : Below w.heap.size w w' :=
  ((Below.refl _ _).alloc (Nat.le_refl _) o).trans (h.mono (by simp))

/-- A script, as it lies. -/
structure Script (w : World) (blk off len : Nat) (O : Nat → OpV) : Prop where
  lt : blk < w.heap.size
  lies : ∀ i, i < len → w.rangeAt blk (off + i * 18) (O i).cells

theorem rangeAt_below {B : Nat} {w w' : World} (h : Below B w w') {b o : Nat} {cs : List Value} (hb : b < B) (hc : w.rangeAt b o cs) : w'.rangeAt b o cs :=
  fun j v hv => by rw [h.cell (p := ⟨b, o + j, none⟩) hb]; exact hc j v hv

/-- A SCRIPT THAT CAME IN: of no step, or a row of steps. -/
def IsScript (w : World) (a : Option Addr) (len : Nat) (O : Nat → OpV) : Prop :=
  len = 0 ∨ (len ≤ 9223372036854775807 ∧ ∃ blk off, a = some ⟨blk, off, none⟩ ∧ Script w blk off len O ∧ ∀ i, i < len → (O i).Ok)

end Go.Proofs.Ytcmoffiigpchiaa
