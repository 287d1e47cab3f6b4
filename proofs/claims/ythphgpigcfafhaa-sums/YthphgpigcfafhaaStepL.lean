import Derived.Test.YthphgpigcfafhaaPlays
import Derived.Test.YthphgpigcfafhaaSumW
namespace Go.Proofs.Ythphgpigcfafhaa
open Go.RowKit

theorem bel_alloc {w w' : World} {o : Obj} (h : Below (w.alloc o).heap.size (w.alloc o) w') : Below w.heap.size w w' :=
  ((Below.refl _ _).alloc (Nat.le_refl _) o).trans (h.mono (by simp))

set_option maxHeartbeats 400000 in
theorem step_sum (o : OpV) (ho : o.Ok) (hk : o.kind = 3) (p : Value) (w : World) :
    Calls Try.prog 7 #[p, o.val] w fun e w' => e = .returned (.bool true) ∧ Below w.heap.size w w' := by
  have hb := ho.b
  unfold OpV.val OpV.cells
  rw [hk]
  go_enter Try.func7, Try.ntmps7
  go_wp2_with (go_at_call 11; refine (summed_true _ _ hb).mono ?_; rintro e w' ⟨rfl, rfl⟩)
  go_ret
  exact ⟨rfl, (Below.refl _ _).alloc (Nat.le_refl _) _⟩

set_option maxHeartbeats 400000 in
theorem ends_none (B : Nat) (w : World) (h : w.cell? ⟨B, 0, none⟩ = some (.slice none 0 0)) :
    Calls Try.prog 8 #[.pointer (some ⟨B, 0, none⟩)] w fun e w' => e = .returned (.bool true) ∧ Below B w w' := by
  go_enter Try.func8, Try.ntmps8
  go_wp2
  go_loop [3] (fun i => i = .int .i64 0) (fun _ => 0)
  case atStart => rfl
  case round =>
    subst hrel
    go_wp2
    go_ret
    exact ⟨rfl, Below.refl _ _⟩
end Go.Proofs.Ythphgpigcfafhaa
