import Derived.Test.YtcmoffiigpchiaaKeepK
import Derived.Test.YtcmoffiigpchiaaBoxW
import Derived.BigQuiet
namespace Go.Proofs.Ytcmoffiigpchiaa
open Go.RowKit
namespace Keep

set_option maxRecDepth 100000 in
set_option maxHeartbeats 2000000 in
theorem fits_k (B fb xb r cap : Nat) (p : ByteArray) (m : RM) (l : List StV) (sv : Int) (hl : 0 < l.length) (hu : l.length ≤ 10001) (s0 : 0 ≤ sv) (s1 : sv ≤ 1000000000000000000) (room period : Int) (h1 : i64ok room) (h2 : i64ok period) (w : World) (hF : FilmAt w B fb xb r cap p m l sv) :
    Calls Try.prog 16 #[.pointer (some ⟨fb, 0, none⟩), .int .i64 room, .int .i64 period] w fun e w' => e = .returned (.bool (decide (2 + sv + ((l.length - 1 : Nat) : Int) + ((l.length - 1 : Nat) : Int) / (1 + (kp period 50 : Int)) ≤ 2 + (kp room 63 : Int)))) ∧ Below w.heap.size w w' := by
  have HP1 := hide (pick_63 room h1)
  have HP2 := hide (pick_50 period h2)
  have k1 := kp_lt room (n := 63) (by decide)
  have k2 := kp_lt period (n := 50) (by decide)
  obtain ⟨c0, f0, g0⟩ := hF.box
  obtain ⟨nn, hn⟩ : ∃ nn, l.length - 1 = nn := ⟨_, rfl⟩
  have hnl : l.length = nn + 1 := by omega
  rw [hn]
  rw [hnl] at c0
  generalize kp room 63 = ra at *
  generalize kp period 50 = pa at *
  have hn2 : nn ≤ 10000 := by omega
  have hd0 : (0 : Int) ≤ (nn : Int) / (1 + (pa : Int)) := Int.ediv_nonneg (by omega) (by omega)
  have hd1 : (nn : Int) / (1 + (pa : Int)) ≤ 10000 := by
    have := Int.ediv_le_self (b := (1 + (pa : Int))) (a := (nn : Int)) (by omega)
    omega
  have hq : (nn : Int).tdiv (1 + (pa : Int)) = (nn : Int) / (1 + (pa : Int)) := Int.tdiv_eq_ediv_of_nonneg (by omega)
  have a1 : IntKind.i64.wrap (2 + sv) = 2 + sv := by rw [IntKind.wrap_i64]; omega
  have a2 : IntKind.i64.wrap (2 + sv + (nn : Int)) = 2 + sv + (nn : Int) := by rw [IntKind.wrap_i64]; omega
  have a3 : IntKind.i64.wrap (1 + (pa : Int)) = 1 + (pa : Int) := by rw [IntKind.wrap_i64]; omega
  have a4 : IntKind.i64.wrap ((nn : Int) / (1 + (pa : Int))) = (nn : Int) / (1 + (pa : Int)) := by rw [IntKind.wrap_i64]; omega
  have a5 : IntKind.i64.wrap (2 + sv + (nn : Int) + (nn : Int) / (1 + (pa : Int))) = 2 + sv + (nn : Int) + (nn : Int) / (1 + (pa : Int)) := by rw [IntKind.wrap_i64]; omega
  have a6 : IntKind.i64.wrap (2 + (ra : Int)) = 2 + (ra : Int) := by rw [IntKind.wrap_i64]; omega
  have a7 : ¬ (1 + (pa : Int)) = 0 := by omega
  clear hd0 hd1 hF h1 h2 hn hnl hl hu g0
  go_enter Try.func16, Try.ntmps16
  go_upto_region 2 with fail
  go_quiet (first | (go_at_call_of 14 room; exact Calls.quiet_of_same (unhide HP1 _)) | (go_at_call_of 14 period; exact Calls.quiet_of_same (unhide HP2 _)))
  go_wp2_with fail
  go_ret
  exact ⟨rfl, bel_drewN (Below.refl _ _) _⟩
end Keep
end Go.Proofs.Ytcmoffiigpchiaa
