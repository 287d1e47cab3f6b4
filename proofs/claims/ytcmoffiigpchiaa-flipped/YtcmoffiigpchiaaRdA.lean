import Derived.Test.YtcmoffiigpchiaaRdP
import Derived.Test.YtcmoffiigpchiaaHiP
import Derived.Test.YtcmoffiigpchiaaBoxW
import Derived.Test.YtcmoffiigpchiaaSumW
import Derived.Deep.MidRow
namespace Go.Proofs.Ytcmoffiigpchiaa
open Go.RowKit

/-- A frame, as the cells of the program's struct. -/
def kindN (b : Bool) : Nat := if b = true then 67 else 69
def Hist.En.fcells (e : Hist.En) : List Value := [.int .u8 (kindN e.st), .int .i64 e.k, .int .i64 e.n, .int .i64 e.s.n, .int .i64 e.s.pc, .string e.s.regs, .string e.s.cells, .int .i64 e.s.clock, .int .i64 e.s.handler, .int .i64 e.s.back, .bool e.s.pending, .bool e.s.halted, .int .i64 e.c.input, .int .i64 e.c.ticks, .bool e.c.interrupt]
abbrev fv (kind : Int) (k n : Int) (s : StV) (c : ChV) : Value := .agg #[.int .u8 kind, .int .i64 k, .int .i64 n, .int .i64 s.n, .int .i64 s.pc, .string s.regs, .string s.cells, .int .i64 s.clock, .int .i64 s.handler, .int .i64 s.back, .bool s.pending, .bool s.halted, .int .i64 c.input, .int .i64 c.ticks, .bool c.interrupt]
def Hist.En.fval (e : Hist.En) : Value := .agg e.fcells.toArray

set_option maxRecDepth 100000 in
set_option maxHeartbeats 1000000 in
theorem value_code (s : ByteArray) (hs : s.size ≤ 4) (w : World) :
    Calls Try.prog 66 #[.string s] w fun e w' => e = .returned (.int .i64 (Frame.highN s : Nat)) ∧ w' = w := by
  go_enter Try.func66, Try.ntmps66
  go_wp2
  go_loop [3, 4] (fun x i => ∃ k : Nat, k ≤ s.size ∧ i = .int .i64 ((k : Int) - 1) ∧ x = .int .i64 (Frame.highFrom s k : Nat)) (fun _ i => ((intOf i) + 1).toNat)
  case atStart => exact ⟨s.size, Nat.le_refl _, rfl, by rw [Frame.highFrom_size]; rfl⟩
  case round =>
    obtain ⟨k, hk, rfl, rfl⟩ := hrel
    by_cases h0 : k = 0
    · subst h0
      go_wp2
      go_ret
      exact ⟨rfl, rfl⟩
    · obtain ⟨j, rfl⟩ : ∃ j, k = j + 1 := ⟨k - 1, by omega⟩
      have hf := Frame.highFrom_lt s (j + 1)
      have hfb : Frame.highFrom s (j + 1) < 256 ^ 4 := Nat.lt_of_lt_of_le hf (Nat.pow_le_pow_right (by omega) (by omega))
      have HS := hide (Frame.highFrom_succ s j (by omega))
      have hb := Code.byt_eq s j (by omega)
      have hbl := Code.byt_lt s j
      generalize Frame.highFrom s (j + 1) = u at *
      have hu : u < 4294967296 := hfb
      clear hf hfb h0
      have hj1 : ((j + 1 : Nat) : Int) - 1 = (j : Int) := by omega
      rw [hj1]
      go_wp2
      go_round
      case rel => exact ⟨j, by omega, by go_num, by rw [HS.out]; go_num⟩
      case measure => simp [intOf]

set_option maxRecDepth 100000 in
set_option maxHeartbeats 1000000 in
theorem isNought_code (s : ByteArray) (hs : s.size ≤ 64) (w : World) :
    Calls Try.prog 82 #[.string s] w fun e w' => e = .returned (.bool (Hist.nought s 0 s.size)) ∧ w' = w := by
  go_enter Try.func82, Try.ntmps82
  go_wp2
  go_loop [3] (fun i => ∃ k : Nat, k ≤ s.size ∧ i = .int .i64 k ∧ ∀ j, j < k → Code.byt s j = 0) (fun i => s.size - (intOf i).toNat)
  case atStart => exact ⟨0, Nat.zero_le _, rfl, fun j hj => by omega⟩
  case round =>
    obtain ⟨k, hk, rfl, hall⟩ := hrel
    have HA := hide hall
    clear hall
    by_cases hlt : k < s.size
    · have hb := Code.byt_eq s k hlt
      by_cases h0 : Code.byt s k = 0
      · have h0' : ((Code.byt s k : Nat) : Int) = 0 := by omega
        go_wp2
        go_round
        case rel =>
          refine ⟨k + 1, by omega, by go_num, fun j hj => ?_⟩
          rcases Nat.lt_or_ge j k with h | h
          · exact unhide HA j h
          · have : j = k := by omega
            subst this
            exact h0
        case measure => simp [intOf]; omega
      · have h0' : ¬ ((Code.byt s k : Nat) : Int) = 0 := by omega
        have HN : Hid (Hist.nought s 0 s.size = false) := hide (by
          cases hx : Hist.nought s 0 s.size with
          | false => rfl
          | true => exact absurd ((Hist.nought_iff s 0 s.size).1 hx k (by omega) hlt) h0)
        go_wp2
        go_ret
        exact ⟨by rw [unhide HN]; rfl, rfl⟩
    · have HN : Hid (Hist.nought s 0 s.size = true) := hide ((Hist.nought_iff s 0 s.size).2 (fun j _ hj => unhide HA j (by omega)))
      go_wp2
      go_ret
      exact ⟨by rw [unhide HN]; rfl, rfl⟩

theorem next_number (k : Nat) (hk : k < 65536) (w : World) :
    Calls Try.prog 64 #[.int .i64 k] w fun e w' => e = .returned (.int .i64 ((k + 1) % 65536 : Nat)) ∧ w' = w := by
  go_enter Try.func64, Try.ntmps64
  go_wp2
  go_ret
  exact ⟨by go_num, rfl⟩

set_option maxHeartbeats 1000000 in
theorem reach_code (e : Hist.En) (he : e.n ≤ 10000) (w : World) :
    Calls Try.prog 45 #[e.fval] w fun r w' => r = .returned (.int .i64 (e.to : Nat)) ∧ Below w.heap.size w w' := by
  obtain ⟨st, k, n, ⟨sn, pc, regs, cells, clock, handler, back, pending, halted⟩, ⟨input, ticks, interrupt⟩⟩ := e
  simp only at he
  cases st
  · simp only [Hist.En.fval, Hist.En.fcells, kindN, Hist.En.to]
    go_enter Try.func45, Try.ntmps45
    go_wp2
    go_ret
    exact ⟨by go_num, (Below.refl _ _).alloc (Nat.le_refl _) _⟩
  · simp only [Hist.En.fval, Hist.En.fcells, kindN, Hist.En.to]
    go_enter Try.func45, Try.ntmps45
    go_wp2
    go_ret
    exact ⟨by go_num, (Below.refl _ _).alloc (Nat.le_refl _) _⟩
end Go.Proofs.Ytcmoffiigpchiaa
