import Derived.Test.YtcmoffiigpchiaaGreatSealW
import Derived.Test.YtcmoffiigpchiaaGreatOneW
namespace Go.Proofs.YtcmoffiigpchiaaGreat
open Go.RowKit

set_option maxRecDepth 100000 in
set_option maxHeartbeats 1000000 in
theorem begin_ref (w : World) : Calls Tryz.prog 55 #[] w fun e w' => e = .returned Frame.begin.val ∧ Below w.heap.size w w' := by
  have hm := make16
  have hb := zeros_back 16 zc16 (fun j hj => by rw [zc16_eq]; exact repl_at 16 _ j hj)
  have hz := Frame.zeroB_size 16
  have HB : Hid (Frame.begin = ⟨0, 0, (Frame.zeroB 16).extract 0 4, Frame.zeroB 16, 0, -1, -1, false, false⟩) := by
    show _ = _
    unfold Frame.begin
    congr 1
  generalize Frame.zeroB 16 = z at *
  generalize zc16 = C at *
  have hs : ∀ X : Obj, (w.alloc X).heap.size = w.heap.size + 1 := fun X => by simp
  have hm2 : ∀ X : Obj, (Instr.makeSlice 111 (.int .i64 16) (.int .i64 16)).run Tryz.prog (w.alloc X) = .ok (.slice (some ⟨w.heap.size + 1, 0, none⟩) 16 16) ((w.alloc X).alloc (.cells C 5)) := fun X => by rw [← hs X]; exact hm (w.alloc X)
  have hb2 : ∀ X : Obj, (convert 111 9 (.slice (some ⟨w.heap.size + 1, 0, none⟩) 16 16)).run Tryz.prog ((w.alloc X).alloc (.cells C 5)) = .ok (.string z) ((w.alloc X).alloc (.cells C 5)) := fun X => by rw [← hs X]; exact hb (w.alloc X)
  clear hm hb hs
  go_enter Tryz.func55, Tryz.ntmps55
  go_wp2
  refine bodyPost_ret (v := StV.val ⟨0, 0, z.extract 0 4, z, 0, -1, -1, false, false⟩) (by simp [results, Tryz.results55, go_sem]) rfl ⟨by rw [HB.out], ?_⟩
  repeat (refine Below.setCell ?_ (by simp <;> omega) _)
  exact bel2
end Go.Proofs.YtcmoffiigpchiaaGreat
