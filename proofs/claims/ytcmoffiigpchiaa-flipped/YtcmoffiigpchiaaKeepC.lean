import Derived.Test.YtcmoffiigpchiaaKeepB
import Derived.Deep.RegionHeld3
import Derived.Deep.DeepCutAuto
import Derived.Deep.RegionWith
import Derived.Test.YtcmoffiigpchiaaBoxW
namespace Go.Proofs.Ytcmoffiigpchiaa
open Go.RowKit
namespace Keep

/-- Raw numbers, as they lie. -/
def Ints (w : World) (a : Option Addr) (len : Nat) (V : Nat → Int) : Prop :=
  len = 0 ∨ ∃ blk off, a = some ⟨blk, off, none⟩ ∧ blk < w.heap.size ∧ ∀ i, i < len → w.cell? ⟨blk, off + i, none⟩ = some (.int .i64 (V i)) ∧ i64ok (V i)
theorem Ints.next {w w' : World} {a : Option Addr} {len : Nat} {V : Nat → Int} (h : Ints w a len V) (hb : Below w.heap.size w w') : Ints w' a len V := by
  rcases h with h | ⟨blk, off, rfl, hl, hc⟩
  · exact .inl h
  · exact .inr ⟨blk, off, rfl, Nat.lt_of_lt_of_le hl hb.size, fun i hi => ⟨by rw [hb.cell (p := ⟨blk, off + i, none⟩) hl]; exact (hc i hi).1, (hc i hi).2⟩⟩

/-- The same but for draws. -/
def Drawn (w w' : World) : Prop := ∃ d, w' = w.drewN d
theorem Drawn.refl (w : World) : Drawn w w := ⟨0, rfl⟩
theorem Drawn.keeps {w w' : World} (h : Drawn w w') : Keeps w w' [] := by
  obtain ⟨d, rfl⟩ := h
  exact (Keeps.refl w []).drewN d
theorem Drawn.cell {w w' : World} (h : Drawn w w') (a : Addr) : w'.cell? a = w.cell? a := by
  obtain ⟨d, rfl⟩ := h
  rfl
theorem Drawn.more {w w' : World} (h : Drawn w w') (n : Nat) : Drawn w (w'.drewN n) := by
  obtain ⟨d, rfl⟩ := h
  exact ⟨d + n, World.drewN_drewN _ _ _⟩
theorem slice_sign (n : Nat) (hn : n < 15) (w : World) :
    (Instr.slice 9 (.string ⟨#[61, 43, 45, 60, 62, 40, 41, 63, 35, 106, 122, 105, 109, 101, 104]⟩) (some (.int .i64 (n : Int))) (some (.int .i64 ((n : Int) + 1))) none).run Try.prog w = .ok (.string (oneB (Code.sg n))) w := by
  have h : (⟨#[61, 43, 45, 60, 62, 40, 41, 63, 35, 106, 122, 105, 109, 101, 104]⟩ : ByteArray).size = 15 := rfl
  rw [run_slice_string w 9 _ .i64 .i64 (n : Int) ((n : Int) + 1) Try.underlying9 (by omega) (by omega) (by rw [h]; omega)]
  have e1 : ((n : Int)).toNat = n := by omega
  have e2 : ((n : Int) + 1).toNat = n + 1 := by omega
  rw [e1, e2]
  have := signs_at n hn
  unfold signs at this
  rw [this]
theorem progB_succ (V : Nat → Int) (j : Nat) : progB V (j + 1) = progB V j ++ oneB (Code.sg (kp (V j) 1099511627776 % 15)) ++ oneB (letB (Code.sc2 (kp (V j) 1099511627776 % 15)) (kp (V j) 1099511627776 / 15 % 4)) ++ oneB (letB (Code.sc3 (kp (V j) 1099511627776 % 15)) (kp (V j) 1099511627776 / 15 / 4)) := by
  show progB V j ++ insB (V j) = _
  unfold insB
  simp only [ByteArray.append_assoc]

set_option maxRecDepth 100000 in
set_option maxHeartbeats 1000000 in
theorem program_k (a : Option Addr) (len cap : Nat) (hlen : (len : Int) ≤ 9223372036854775807) (V : Nat → Int) (w : World) (h : Ints w a len V) :
    Calls Try.prog 8 #[.slice a len cap] w fun e w' => e = .returned (.string (progB V (min len 32))) ∧ Drawn w w' := by
  have HI := hide h
  clear h
  go_enter Try.func8, Try.ntmps8
  go_wp2
  go_loopw [3, 4] (fun s i wr => ∃ j : Nat, j ≤ len ∧ j ≤ 32 ∧ i = .int .i64 j ∧ s = .string (progB V j) ∧ Drawn w wr) (fun _ i _ => len - (intOf i).toNat)
  case atStart => exact ⟨0, Nat.zero_le _, by omega, rfl, rfl, Drawn.refl w⟩
  case round =>
    obtain ⟨j, hj, hj2, rfl, rfl, hal⟩ := hrel
    have HAL := hide hal
    clear hal
    by_cases h1 : j < len
    · by_cases h2 : j < 32
      · obtain ⟨blk, off, rfl, hbl, hcell, hok⟩ : ∃ blk off, a = some ⟨blk, off, none⟩ ∧ blk < w.heap.size ∧ wr.cell? ⟨blk, off + j, none⟩ = some (.int .i64 (V j)) ∧ i64ok (V j) := by
          rcases unhide HI with h | ⟨blk, off, rfl, hl, hc⟩
          · omega
          · exact ⟨blk, off, rfl, hl, by rw [(unhide HAL).cell]; exact (hc j h1).1, (hc j h1).2⟩
        have HP := hide (pick_big (V j) hok)
        have hk : kp (V j) 1099511627776 < 1099511627776 := kp_lt _ (by omega)
        have HS := hide (progB_succ V j)
        have hz := progB_size V j
        generalize kp (V j) 1099511627776 = k at *
        generalize progB V j = s at *
        have hn1 : (k : Int) % 15 = ((k % 15 : Nat) : Int) := by omega
        have hn : k % 15 < 15 := by omega
        have hq1 : (k : Int) / 15 = ((k / 15 : Nat) : Int) := by omega
        have hq : k / 15 < 1099511627776 := by omega
        generalize k % 15 = n at *
        generalize k / 15 = q at *
        have hr1 : (q : Int) % 4 = ((q % 4 : Nat) : Int) := by omega
        have hr : q % 4 < 1099511627776 := by omega
        have hu1 : (q : Int) / 4 = ((q / 4 : Nat) : Int) := by omega
        have hu : q / 4 < 1099511627776 := by omega
        have L1 := hide (letter_k (Code.sc2 n) (q % 4) hr)
        have L2 := hide (letter_k (Code.sc3 n) (q / 4) hu)
        generalize q % 4 = r at *
        generalize q / 4 = u at *
        have i2 := index_sc2 n hn
        have i3 := index_sc3 n hn
        have hs := slice_sign n hn
        have e2 := oneB_size (letB (Code.sc2 n) r)
        have e3 := oneB_size (letB (Code.sc3 n) u)
        have e1 := oneB_size (Code.sg n)
        generalize oneB (letB (Code.sc2 n) r) = c2 at *
        generalize oneB (letB (Code.sc3 n) u) = c3 at *
        generalize oneB (Code.sg n) = c1 at *
        generalize Code.sc2 n = k2 at *
        generalize Code.sc3 n = k3 at *
        have hnI : (n : Int) < 15 := by omega
        have hsz : s.size ≤ 96 := by omega
        have HZ := hide hz
        clear hz
        go_upto_region 8 with (go_at_call 14; refine (unhide HP _).mono ?_; rintro e w' ⟨rfl, hw⟩; obtain rfl := hw.symm)
        rw [hn1]
        have w1 : IntKind.i64.wrap ((n : Int) + 1) = (n : Int) + 1 := i64_wrap_nat (n + 1) (by omega)
        have w2 := i64_wrap_nat r (by omega)
        have w3 := i64_wrap_nat u (by omega)
        have t1 : (q : Int).tmod 4 = (r : Int) := by rw [Int.tmod_eq_emod_of_nonneg (by omega)]; exact hr1
        have t2 : (q : Int).tdiv 4 = (u : Int) := by rw [Int.tdiv_eq_ediv_of_nonneg (by omega)]; exact hu1
        have z1 : ¬ 9223372036854775807 < s.size + c1.size := by omega
        have z2 : ¬ 9223372036854775807 < s.size + 1 := by omega
        have z3 : ¬ 9223372036854775807 < s.size + 1 + 1 := by omega
        have z4 : ¬ 9223372036854775807 < s.size + 1 + 1 + 1 := by omega
        go_quiet (first | (go_at_call_of 20 k2; exact Calls.quiet_of_same (unhide L1 _)) | (go_at_call_of 20 k3; exact Calls.quiet_of_same (unhide L2 _)))
        go_wp2
        go_roundw
        case rel =>
          exact ⟨j + 1, by omega, by omega, by go_num, by rw [unhide HS], (unhide HAL).more nq⟩
        case measure => simp [intOf]; omega
      · have : j = 32 := by omega
        subst this
        go_wp2
        go_ret
        have hm : min len 32 = 32 := by omega
        exact ⟨by rw [hm]; rfl, unhide HAL⟩
    · have : j = len := by omega
      subst this
      go_wp2
      go_ret
      have hm : min j 32 = j := by omega
      exact ⟨by rw [hm]; rfl, unhide HAL⟩
end Keep
end Go.Proofs.Ytcmoffiigpchiaa
