import Derived.Test.YtcmoffiigpchiaaGreatRdP
import Derived.Test.YtcmoffiigpchiaaGreatHiP
import Derived.Test.YtcmoffiigpchiaaGreatBoxW
import Derived.Test.YtcmoffiigpchiaaGreatSumW
import Derived.Deep.MidRow
import Derived.Test.YtcmoffiigpchiaaGreatFrC
import Derived.Deep.DeepCutAuto
import Derived.Deep.RegionHeld3
import Derived.Test.YtcmoffiigpchiaaGreatRegL
namespace Go.Proofs.YtcmoffiigpchiaaGreat
open Go.RowKit

/-- A frame, as the cells of the program's struct. -/
def kindN (b : Bool) : Nat := if b = true then 67 else 69
def Hist.En.fcells (e : Hist.En) : List Value := [.int .u8 (kindN e.st), .int .i64 e.k, .int .i64 e.n, .int .i64 e.s.n, .int .i64 e.s.pc, .string e.s.regs, .string e.s.cells, .int .i64 e.s.clock, .int .i64 e.s.handler, .int .i64 e.s.back, .bool e.s.pending, .bool e.s.halted, .int .i64 e.c.input, .int .i64 e.c.ticks, .bool e.c.interrupt]
abbrev fv (kind : Int) (k n : Int) (s : StV) (c : ChV) : Value := .agg #[.int .u8 kind, .int .i64 k, .int .i64 n, .int .i64 s.n, .int .i64 s.pc, .string s.regs, .string s.cells, .int .i64 s.clock, .int .i64 s.handler, .int .i64 s.back, .bool s.pending, .bool s.halted, .int .i64 c.input, .int .i64 c.ticks, .bool c.interrupt]
def Hist.En.fval (e : Hist.En) : Value := .agg e.fcells.toArray

set_option maxRecDepth 100000 in
set_option maxHeartbeats 1000000 in
theorem value_code (s : ByteArray) (hs : s.size ≤ 4) (w : World) :
    Calls Tryz.prog 108 #[.string s] w fun e w' => e = .returned (.int .i64 (Frame.highN s : Nat)) ∧ w' = w := by
  go_enter Tryz.func108, Tryz.ntmps108
  go_wp2
  go_loop [3, 4] (fun x i => ∃ k : Nat, k ≤ s.size ∧ i = .int .i64 ((k : Int) - 1) ∧ x = .int .i64 (Frame.highFrom s k : Nat)) (fun _ i => ((intOf i) + 1).toNat)
  case atStart => exact ⟨s.size, Nat.le_refl _, rfl, by rw [Frame.highFrom_size]; rfl⟩
  case round =>
    obtain ⟨k, hk, rfl, rfl⟩ := hrel
    by_cases h0 : k = 0
    · subst h0
      go_wp2
      go_ret
      exact ⟨rfl, rfl⟩
    · obtain ⟨j, rfl⟩ : ∃ j, k = j + 1 := ⟨k - 1, by omega⟩
      have hf := Frame.highFrom_lt s (j + 1)
      have hfb : Frame.highFrom s (j + 1) < 256 ^ 4 := Nat.lt_of_lt_of_le hf (Nat.pow_le_pow_right (by omega) (by omega))
      have HS := hide (Frame.highFrom_succ s j (by omega))
      have hb := Code.byt_eq s j (by omega)
      have hbl := Code.byt_lt s j
      generalize Frame.highFrom s (j + 1) = u at *
      have hu : u < 4294967296 := hfb
      clear hf hfb h0
      have hj1 : ((j + 1 : Nat) : Int) - 1 = (j : Int) := by omega
      rw [hj1]
      go_wp2
      go_round
      case rel => exact ⟨j, by omega, by go_num, by rw [HS.out]; go_num⟩
      case measure => simp [intOf]

set_option maxRecDepth 100000 in
set_option maxHeartbeats 1000000 in
theorem isNought_code (s : ByteArray) (hs : s.size ≤ 64) (w : World) :
    Calls Tryz.prog 123 #[.string s] w fun e w' => e = .returned (.bool (Hist.nought s 0 s.size)) ∧ w' = w := by
  go_enter Tryz.func123, Tryz.ntmps123
  go_wp2
  go_loop [3] (fun i => ∃ k : Nat, k ≤ s.size ∧ i = .int .i64 k ∧ ∀ j, j < k → Code.byt s j = 0) (fun i => s.size - (intOf i).toNat)
  case atStart => exact ⟨0, Nat.zero_le _, rfl, fun j hj => by omega⟩
  case round =>
    obtain ⟨k, hk, rfl, hall⟩ := hrel
    have HA := hide hall
    clear hall
    by_cases hlt : k < s.size
    · have hb := Code.byt_eq s k hlt
      by_cases h0 : Code.byt s k = 0
      · have h0' : ((Code.byt s k : Nat) : Int) = 0 := by omega
        go_wp2
        go_round
        case rel =>
          refine ⟨k + 1, by omega, by go_num, fun j hj => ?_⟩
          rcases Nat.lt_or_ge j k with h | h
          · exact unhide HA j h
          · have : j = k := by omega
            subst this
            exact h0
        case measure => simp [intOf]; omega
      · have h0' : ¬ ((Code.byt s k : Nat) : Int) = 0 := by omega
        have HN : Hid (Hist.nought s 0 s.size = false) := hide (by
          cases hx : Hist.nought s 0 s.size with
          | false => rfl
          | true => exact absurd ((Hist.nought_iff s 0 s.size).1 hx k (by omega) hlt) h0)
        go_wp2
        go_ret
        exact ⟨by rw [unhide HN]; rfl, rfl⟩
    · have HN : Hid (Hist.nought s 0 s.size = true) := hide ((Hist.nought_iff s 0 s.size).2 (fun j _ hj => unhide HA j (by omega)))
      go_wp2
      go_ret
      exact ⟨by rw [unhide HN]; rfl, rfl⟩

theorem next_number (k : Nat) (hk : k < 65536) (w : World) :
    Calls Tryz.prog 111 #[.int .i64 k] w fun e w' => e = .returned (.int .i64 ((k + 1) % 65536 : Nat)) ∧ w' = w := by
  go_enter Tryz.func111, Tryz.ntmps111
  go_wp2
  go_ret
  exact ⟨by go_num, rfl⟩

set_option maxHeartbeats 1000000 in
theorem reach_code (e : Hist.En) (he : e.n ≤ 10000) (w : World) :
    Calls Tryz.prog 85 #[e.fval] w fun r w' => r = .returned (.int .i64 (e.to : Nat)) ∧ Below w.heap.size w w' := by
  obtain ⟨st, k, n, ⟨sn, pc, regs, cells, clock, handler, back, pending, halted⟩, ⟨input, ticks, interrupt⟩⟩ := e
  simp only at he
  cases st
  · simp only [Hist.En.fval, Hist.En.fcells, kindN, Hist.En.to]
    go_enter Tryz.func85, Tryz.ntmps85
    go_wp2
    go_ret
    exact ⟨by go_num, (Below.refl _ _).alloc (Nat.le_refl _) _⟩
  · simp only [Hist.En.fval, Hist.En.fcells, kindN, Hist.En.to]
    go_enter Tryz.func85, Tryz.ntmps85
    go_wp2
    go_ret
    exact ⟨by go_num, (Below.refl _ _).alloc (Nat.le_refl _) _⟩
end Go.Proofs.YtcmoffiigpchiaaGreat

namespace Go.Proofs.YtcmoffiigpchiaaGreat
open Go.RowKit

theorem ofInt_u8 (a : Nat) (ha : a < 256) : (BitVec.ofInt 8 (a : Int)).toNat = a := by
  rw [BitVec.ofInt_natCast, BitVec.toNat_ofNat]; exact Nat.mod_eq_of_lt (by omega)
theorem u8_wrap_nat (n : Nat) (h : n < 256) : IntKind.u8.wrap (n : Int) = n := by
  simp [IntKind.wrap, IntKind.bits, IntKind.signed]; omega
theorem u8_and_nat (a b : Nat) (ha : a < 256) (hb : b < 256) : bits .and .u8 (a : Int) (b : Int) = ((a &&& b : Nat) : Int) := by
  have hx : a &&& b ≤ a := Nat.and_le_left
  show IntKind.u8.wrap ((BitVec.ofInt 8 (a : Int) &&& BitVec.ofInt 8 (b : Int)).toNat : Int) = _
  rw [BitVec.toNat_and, ofInt_u8 a ha, ofInt_u8 b hb]
  exact u8_wrap_nat _ (by omega)
theorem flag_bits : ∀ x : Nat, x ≤ 3 → bits .and .u8 (x : Int) 1 = ((x % 2 : Nat) : Int) ∧ bits .and .u8 (x : Int) 2 = ((2 * (x / 2 % 2) : Nat) : Int) := by
  intro x hx
  have h1 := u8_and_nat x 1 (by omega) (by omega)
  have h2 := u8_and_nat x 2 (by omega) (by omega)
  refine ⟨h1.trans ?_, h2.trans ?_⟩
  · rw [Nat.and_one_is_mod]
  · rcases (by omega : x = 0 ∨ x = 1 ∨ x = 2 ∨ x = 3) with rfl | rfl | rfl | rfl <;> rfl
theorem flag_ne (x : Nat) : decide (x % 2 = 1) = ((x : Int) % 2 != 0) ∧ decide (x / 2 % 2 = 1) = (2 * ((x : Int) / 2 % 2) != 0) := by
  constructor
  · have h : ((x : Int) % 2) = ((x % 2 : Nat) : Int) := by omega
    rw [h]
    rcases Nat.mod_two_eq_zero_or_one x with h | h <;> simp [h]
  · have h : ((x : Int) / 2 % 2) = ((x / 2 % 2 : Nat) : Int) := by omega
    rw [h]
    rcases Nat.mod_two_eq_zero_or_one (x / 2) with h | h <;> simp [h]

theorem putF_arr (a0 a1 a2 a3 a4 a5 a6 a7 a8 a9 a10 a11 a12 a13 a14 v0 v1 v2 v3 v4 v5 v6 v7 v8 v9 v10 v11 v12 v13 v14 : Value) : (((((((((((((((#[a0, a1, a2, a3, a4, a5, a6, a7, a8, a9, a10, a11, a12, a13, a14].setIfInBounds 0 v0).setIfInBounds 1 v1).setIfInBounds 2 v2).setIfInBounds 3 v3).setIfInBounds 4 v4).setIfInBounds 5 v5).setIfInBounds 6 v6).setIfInBounds 7 v7).setIfInBounds 8 v8).setIfInBounds 9 v9).setIfInBounds 10 v10).setIfInBounds 11 v11).setIfInBounds 12 v12).setIfInBounds 13 v13).setIfInBounds 14 v14) = #[v0, v1, v2, v3, v4, v5, v6, v7, v8, v9, v10, v11, v12, v13, v14] := by simp
theorem Box.putF {w : World} {b : Nat} {a0 a1 a2 a3 a4 a5 a6 a7 a8 a9 a10 a11 a12 a13 a14 : Value} (h : Box w b #[a0, a1, a2, a3, a4, a5, a6, a7, a8, a9, a10, a11, a12, a13, a14]) (v0 v1 v2 v3 v4 v5 v6 v7 v8 v9 v10 v11 v12 v13 v14 : Value) :
    Box (((((((((((((((w.setCell ⟨b, 0, none⟩ v0).setCell ⟨b, 1, none⟩ v1).setCell ⟨b, 2, none⟩ v2).setCell ⟨b, 3, none⟩ v3).setCell ⟨b, 4, none⟩ v4).setCell ⟨b, 5, none⟩ v5).setCell ⟨b, 6, none⟩ v6).setCell ⟨b, 7, none⟩ v7).setCell ⟨b, 8, none⟩ v8).setCell ⟨b, 9, none⟩ v9).setCell ⟨b, 10, none⟩ v10).setCell ⟨b, 11, none⟩ v11).setCell ⟨b, 12, none⟩ v12).setCell ⟨b, 13, none⟩ v13).setCell ⟨b, 14, none⟩ v14) b #[v0, v1, v2, v3, v4, v5, v6, v7, v8, v9, v10, v11, v12, v13, v14] := by
  rw [← putF_arr a0 a1 a2 a3 a4 a5 a6 a7 a8 a9 a10 a11 a12 a13 a14 v0 v1 v2 v3 v4 v5 v6 v7 v8 v9 v10 v11 v12 v13 v14]
  exact (((((((((((((((h.set 0 v0 (by simp)).set 1 v1 (by simp)).set 2 v2 (by simp)).set 3 v3 (by simp)).set 4 v4 (by simp)).set 5 v5 (by simp)).set 6 v6 (by simp)).set 7 v7 (by simp)).set 8 v8 (by simp)).set 9 v9 (by simp)).set 10 v10 (by simp)).set 11 v11 (by simp)).set 12 v12 (by simp)).set 13 v13 (by simp)).set 14 v14 (by simp))

theorem putS_arr (a0 a1 a2 a3 a4 a5 a6 a7 a8 a9 a10 a11 a12 a13 a14 v3 v4 v5 v6 v7 v8 v9 v10 v11 : Value) : (((((((((#[a0, a1, a2, a3, a4, a5, a6, a7, a8, a9, a10, a11, a12, a13, a14].setIfInBounds 3 v3).setIfInBounds 4 v4).setIfInBounds 5 v5).setIfInBounds 6 v6).setIfInBounds 7 v7).setIfInBounds 8 v8).setIfInBounds 9 v9).setIfInBounds 10 v10).setIfInBounds 11 v11) = #[a0, a1, a2, v3, v4, v5, v6, v7, v8, v9, v10, v11, a12, a13, a14] := by simp
theorem Box.putS {w : World} {b : Nat} {a0 a1 a2 a3 a4 a5 a6 a7 a8 a9 a10 a11 a12 a13 a14 : Value} (h : Box w b #[a0, a1, a2, a3, a4, a5, a6, a7, a8, a9, a10, a11, a12, a13, a14]) (v3 v4 v5 v6 v7 v8 v9 v10 v11 : Value) :
    Box (((((((((w.setCell ⟨b, 3, none⟩ v3).setCell ⟨b, 4, none⟩ v4).setCell ⟨b, 5, none⟩ v5).setCell ⟨b, 6, none⟩ v6).setCell ⟨b, 7, none⟩ v7).setCell ⟨b, 8, none⟩ v8).setCell ⟨b, 9, none⟩ v9).setCell ⟨b, 10, none⟩ v10).setCell ⟨b, 11, none⟩ v11) b #[a0, a1, a2, v3, v4, v5, v6, v7, v8, v9, v10, v11, a12, a13, a14] := by
  rw [← putS_arr a0 a1 a2 a3 a4 a5 a6 a7 a8 a9 a10 a11 a12 a13 a14 v3 v4 v5 v6 v7 v8 v9 v10 v11]
  exact (((((((((h.set 3 v3 (by simp)).set 4 v4 (by simp)).set 5 v5 (by simp)).set 6 v6 (by simp)).set 7 v7 (by simp)).set 8 v8 (by simp)).set 9 v9 (by simp)).set 10 v10 (by simp)).set 11 v11 (by simp))

theorem putC_arr (a0 a1 a2 a3 a4 a5 a6 a7 a8 a9 a10 a11 a12 a13 a14 v12 v13 v14 : Value) : (((#[a0, a1, a2, a3, a4, a5, a6, a7, a8, a9, a10, a11, a12, a13, a14].setIfInBounds 12 v12).setIfInBounds 13 v13).setIfInBounds 14 v14) = #[a0, a1, a2, a3, a4, a5, a6, a7, a8, a9, a10, a11, v12, v13, v14] := by simp
theorem Box.putC {w : World} {b : Nat} {a0 a1 a2 a3 a4 a5 a6 a7 a8 a9 a10 a11 a12 a13 a14 : Value} (h : Box w b #[a0, a1, a2, a3, a4, a5, a6, a7, a8, a9, a10, a11, a12, a13, a14]) (v12 v13 v14 : Value) :
    Box (((w.setCell ⟨b, 12, none⟩ v12).setCell ⟨b, 13, none⟩ v13).setCell ⟨b, 14, none⟩ v14) b #[a0, a1, a2, a3, a4, a5, a6, a7, a8, a9, a10, a11, v12, v13, v14] := by
  rw [← putC_arr a0 a1 a2 a3 a4 a5 a6 a7 a8 a9 a10 a11 a12 a13 a14 v12 v13 v14]
  exact (((h.set 12 v12 (by simp)).set 13 v13 (by simp)).set 14 v14 (by simp))

set_option maxRecDepth 100000 in
set_option maxHeartbeats 4000000 in
theorem readState_code (t : ByteArray) (ht : t.size = 40) (w : World) :
    Calls Tryz.prog 109 #[fv 67 (Hist.numOf t : Nat) (Hist.nOf t : Nat) Mach.zero Hist.noCh, .string t] w fun e w' => ∃ v, e = .returned (.tuple #[v, .bool (decide (Code.byt t 32 ≤ 3) && Hist.nought t 33 36 && Mach.legal (Hist.stOf t))]) ∧ ((decide (Code.byt t 32 ≤ 3) && Hist.nought t 33 36 && Mach.legal (Hist.stOf t)) = true → v = (Hist.enC t).fval) ∧ (∃ kd k n s c, v = fv kd k n s c) ∧ Below w.heap.size w w' := by
  have hf32 := Code.byt_eq t 32 (by omega)
  have hf7 := Code.byt_eq t 7 (by omega)
  have hf30 := Code.byt_eq t 30 (by omega)
  have hf31 := Code.byt_eq t 31 (by omega)
  have hl32 := Code.byt_lt t 32
  have hl30 := Code.byt_lt t 30
  have hl31 := Code.byt_lt t 31
  have HN := hide (isNought_code (t.extract 33 36) (by rw [size_ex t (by omega)]; omega))
  rw [Hist.nought_ex t (by omega) (by omega)] at HN
  have HV := hide (value_code (t.extract 28 30) (by rw [size_ex t (by omega)]; omega))
  have HL := hide (isState_code (Hist.stOf t))
  have HE : Hid ((Hist.enC t).fval = .agg #[.int .u8 67, .int .i64 (Hist.numOf t : Nat), .int .i64 (Hist.nOf t : Nat), .int .i64 (Hist.nOf t : Nat), .int .i64 (Code.byt t 7 : Nat), .string (t.extract 8 12), .string (t.extract 12 28), .int .i64 (Hist.clkOf t : Nat), .int .i64 ((Code.byt t 30 : Int) - 1), .int .i64 ((Code.byt t 31 : Int) - 1), .bool (((Code.byt t 32 : Nat) : Int) % 2 != 0), .bool (2 * (((Code.byt t 32 : Nat) : Int) / 2 % 2) != 0), .int .i64 0, .int .i64 0, .bool false]) := hide (by rw [← (flag_ne (Code.byt t 32)).1, ← (flag_ne (Code.byt t 32)).2]; rfl)
  have hst : (Hist.stOf t).val = .agg #[.int .i64 (Hist.nOf t : Nat), .int .i64 (Code.byt t 7 : Nat), .string (t.extract 8 12), .string (t.extract 12 28), .int .i64 (Hist.clkOf t : Nat), .int .i64 ((Code.byt t 30 : Int) - 1), .int .i64 ((Code.byt t 31 : Int) - 1), .bool (((Code.byt t 32 : Nat) : Int) % 2 != 0), .bool (2 * (((Code.byt t 32 : Nat) : Int) / 2 % 2) != 0)] := by rw [← (flag_ne (Code.byt t 32)).1, ← (flag_ne (Code.byt t 32)).2]; rfl
  rw [hst] at HL
  have hck : Frame.highN (t.extract 28 30) = Hist.clkOf t := rfl
  rw [hck] at HV
  clear hst hck
  have HW : Hid (∃ kd k n s c, (Hist.enC t).fval = fv kd k n s c) := hide ⟨67, (Hist.numOf t : Nat), (Hist.nOf t : Nat), (Hist.stOf t), Hist.noCh, rfl⟩
  generalize (Hist.enC t).fval = ev at *
  generalize Mach.legal (Hist.stOf t) = lg at *
  generalize Hist.nought t 33 36 = nt at *
  generalize Hist.clkOf t = ck at *
  show Calls Tryz.prog 109 #[.agg #[.int .u8 67, .int .i64 (Hist.numOf t : Nat), .int .i64 (Hist.nOf t : Nat), .int .i64 0, .int .i64 0, .string ⟨#[]⟩, .string ⟨#[]⟩, .int .i64 0, .int .i64 0, .int .i64 0, .bool false, .bool false, .int .i64 0, .int .i64 0, .bool false], .string t] w _
  generalize ((Hist.numOf t : Nat) : Int) = kk at *
  generalize ((Hist.nOf t : Nat) : Int) = nn at *
  by_cases h3 : Code.byt t 32 ≤ 3
  · have d3 : decide (Code.byt t 32 ≤ 3) = true := by simp [h3]
    have h3' : ¬ (3 : Int) < ((Code.byt t 32 : Nat) : Int) := by omega
    obtain ⟨hb1, hb2⟩ := flag_bits _ h3
    have hv7 : IntKind.i64.wrap ((Code.byt t 7 : Nat) : Int) = ((Code.byt t 7 : Nat) : Int) := i64_wrap_nat _ (by have := Code.byt_lt t 7; omega)
    have hv30 : IntKind.i64.wrap ((Code.byt t 30 : Nat) : Int) = ((Code.byt t 30 : Nat) : Int) := i64_wrap_nat _ (by omega)
    have hv31 : IntKind.i64.wrap ((Code.byt t 31 : Nat) : Int) = ((Code.byt t 31 : Nat) : Int) := i64_wrap_nat _ (by omega)
    have hw30 : IntKind.i64.wrap (((Code.byt t 30 : Nat) : Int) - 1) = ((Code.byt t 30 : Nat) : Int) - 1 := by simp [IntKind.wrap, IntKind.bits, IntKind.signed]; omega
    have hw31 : IntKind.i64.wrap (((Code.byt t 31 : Nat) : Int) - 1) = ((Code.byt t 31 : Nat) : Int) - 1 := by simp [IntKind.wrap, IntKind.bits, IntKind.signed]; omega
    simp only [d3, Bool.true_and]
    cases nt
    · simp only [Bool.false_and]
      go_enter Tryz.func109, Tryz.ntmps109
      go_wp2_with (go_at_call 123; refine (unhide HN _).mono ?_; rintro e w' ⟨rfl, rfl⟩)
      refine bodyPost_ret (v := .tuple #[.agg #[.int .u8 0, .int .i64 0, .int .i64 0, .int .i64 0, .int .i64 0, .string ⟨#[]⟩, .string ⟨#[]⟩, .int .i64 0, .int .i64 0, .int .i64 0, .bool false, .bool false, .int .i64 0, .int .i64 0, .bool false], .bool false]) (by simp [results, Tryz.results109, go_sem]) rfl ⟨_, rfl, (fun h => by cases h), ⟨0, 0, 0, Mach.zero, Hist.noCh, rfl⟩, ?_⟩
      exact ((Below.refl _ _).alloc (Nat.le_refl _) _).alloc (by simp) _
    · simp only [Bool.true_and]
      go_enter Tryz.func109, Tryz.ntmps109
      go_upto_region 4 with (go_at_call 123; refine (unhide HN _).mono ?_; rintro e w' ⟨rfl, rfl⟩)
      have X0 := hide ((Box.new w #[.int .u8 67, .int .i64 kk, .int .i64 nn, .int .i64 0, .int .i64 0, .string ⟨#[]⟩, .string ⟨#[]⟩, .int .i64 0, .int .i64 0, .int .i64 0, .bool false, .bool false, .int .i64 0, .int .i64 0, .bool false] 116).alloc (.cells #[.int .u8 0, .int .i64 0, .int .i64 0, .int .i64 0, .int .i64 0, .string ⟨#[]⟩, .string ⟨#[]⟩, .int .i64 0, .int .i64 0, .int .i64 0, .bool false, .bool false, .int .i64 0, .int .i64 0, .bool false] 116))
      have Y0 := hide (Box.new (w.alloc (.cells #[.int .u8 67, .int .i64 kk, .int .i64 nn, .int .i64 0, .int .i64 0, .string ⟨#[]⟩, .string ⟨#[]⟩, .int .i64 0, .int .i64 0, .int .i64 0, .bool false, .bool false, .int .i64 0, .int .i64 0, .bool false] 116)) #[.int .u8 0, .int .i64 0, .int .i64 0, .int .i64 0, .int .i64 0, .string ⟨#[]⟩, .string ⟨#[]⟩, .int .i64 0, .int .i64 0, .int .i64 0, .bool false, .bool false, .int .i64 0, .int .i64 0, .bool false] 116)
      have B0 := hide (((Below.refl w.heap.size w).alloc (Nat.le_refl _) (.cells #[.int .u8 67, .int .i64 kk, .int .i64 nn, .int .i64 0, .int .i64 0, .string ⟨#[]⟩, .string ⟨#[]⟩, .int .i64 0, .int .i64 0, .int .i64 0, .bool false, .bool false, .int .i64 0, .int .i64 0, .bool false] 116)).alloc (by simp) (.cells #[.int .u8 0, .int .i64 0, .int .i64 0, .int .i64 0, .int .i64 0, .string ⟨#[]⟩, .string ⟨#[]⟩, .int .i64 0, .int .i64 0, .int .i64 0, .bool false, .bool false, .int .i64 0, .int .i64 0, .bool false] 116))
      rw [show (w.alloc (.cells #[.int .u8 67, .int .i64 kk, .int .i64 nn, .int .i64 0, .int .i64 0, .string ⟨#[]⟩, .string ⟨#[]⟩, .int .i64 0, .int .i64 0, .int .i64 0, .bool false, .bool false, .int .i64 0, .int .i64 0, .bool false] 116)).heap.size = w.heap.size + 1 by simp] at Y0
      generalize (w.alloc (.cells #[.int .u8 67, .int .i64 kk, .int .i64 nn, .int .i64 0, .int .i64 0, .string ⟨#[]⟩, .string ⟨#[]⟩, .int .i64 0, .int .i64 0, .int .i64 0, .bool false, .bool false, .int .i64 0, .int .i64 0, .bool false] 116)).alloc (.cells #[.int .u8 0, .int .i64 0, .int .i64 0, .int .i64 0, .int .i64 0, .string ⟨#[]⟩, .string ⟨#[]⟩, .int .i64 0, .int .i64 0, .int .i64 0, .bool false, .bool false, .int .i64 0, .int .i64 0, .bool false] 116) = wy at *
      obtain ⟨cx, fx, gx⟩ := unhide X0
      obtain ⟨cy, fy, gy⟩ := unhide Y0
      clear gx gy
      go_cut [] (fun wx => Box wx w.heap.size #[.int .u8 67, .int .i64 kk, .int .i64 nn, .int .i64 nn, .int .i64 (Code.byt t 7 : Nat), .string (t.extract 8 12), .string (t.extract 12 28), .int .i64 (ck : Nat), .int .i64 ((Code.byt t 30 : Int) - 1), .int .i64 ((Code.byt t 31 : Int) - 1), .bool (((Code.byt t 32 : Nat) : Int) % 2 != 0), .bool (2 * (((Code.byt t 32 : Nat) : Int) / 2 % 2) != 0), .int .i64 0, .int .i64 0, .bool false] ∧ Box wx (w.heap.size + 1) #[.int .u8 0, .int .i64 0, .int .i64 0, .int .i64 0, .int .i64 0, .string ⟨#[]⟩, .string ⟨#[]⟩, .int .i64 0, .int .i64 0, .int .i64 0, .bool false, .bool false, .int .i64 0, .int .i64 0, .bool false] ∧ Below w.heap.size w wx)
      case first =>
        refine region_last2 28 (S := (fun u => u.cell? ⟨w.heap.size, 2, none⟩ = some (.int .i64 nn))) _ rfl rfl (by kernel_rfl) (by kernel_rfl) (by first | go_keep | (go_simp; done)) (fun hHeld => ?_)
        simp only [List.pop_toArray, List.dropLast_cons_cons, List.dropLast_singleton]
        refine wpAnyH_take (i := 0) (v := ?_) rfl (by kernel_rfl) (by kernel_rfl) (by kernel_rfl) (fun _ _ _ h => h) (Or.inl ⟨by rfl, ?hy⟩) hHeld ?_
        case hy =>
          simp only [List.getElem_toArray, List.getElem_cons_zero]
          intro w' hSw
          (try dsimp only at hSw)
          go_simp
          with_reducible rfl
        simp only [List.getElem_toArray, List.getElem_cons_zero, Act.put, List.setIfInBounds_toArray, List.set_cons_zero, List.set_cons_succ]
        refine wpAnyH_take (i := 1) (v := ?_) rfl (by kernel_rfl) (by kernel_rfl) (by kernel_rfl) (fun _ _ _ h => h) (Or.inl ⟨by rfl, ?hy⟩) hHeld ?_
        case hy =>
          simp only [List.getElem_toArray, List.getElem_cons_succ, List.getElem_cons_zero]
          intro w' hSw
          (try dsimp only at hSw)
          go_simp
          with_reducible rfl
        simp only [List.getElem_toArray, List.getElem_cons_succ, List.getElem_cons_zero, Act.put, List.setIfInBounds_toArray, List.set_cons_zero, List.set_cons_succ]
        refine wpAnyH_take (i := 2) (v := ?_) rfl (by kernel_rfl) (by kernel_rfl) (by kernel_rfl) (fun _ _ _ h => h) (Or.inl ⟨by rfl, ?hy⟩) hHeld ?_
        case hy =>
          simp only [List.getElem_toArray, List.getElem_cons_succ, List.getElem_cons_zero]
          intro w' hSw
          (try dsimp only at hSw)
          go_simp
          with_reducible rfl
        simp only [List.getElem_toArray, List.getElem_cons_succ, List.getElem_cons_zero, Act.put, List.setIfInBounds_toArray, List.set_cons_zero, List.set_cons_succ]
        refine wpAnyH_take (i := 3) (v := ?_) rfl (by kernel_rfl) (by kernel_rfl) (by kernel_rfl) (fun _ _ _ h => h) (Or.inl ⟨by rfl, ?hy⟩) hHeld ?_
        case hy =>
          simp only [List.getElem_toArray, List.getElem_cons_succ, List.getElem_cons_zero]
          intro w' hSw
          (try dsimp only at hSw)
          go_simp
          with_reducible rfl
        simp only [List.getElem_toArray, List.getElem_cons_succ, List.getElem_cons_zero, Act.put, List.setIfInBounds_toArray, List.set_cons_zero, List.set_cons_succ]
        refine wpAnyH_take (i := 4) (v := ?_) rfl (by kernel_rfl) (by kernel_rfl) (by kernel_rfl) (fun _ _ _ h => h) (Or.inl ⟨by rfl, ?hy⟩) hHeld ?_
        case hy =>
          simp only [List.getElem_toArray, List.getElem_cons_succ, List.getElem_cons_zero]
          intro w' hSw
          (try dsimp only at hSw)
          go_simp
          with_reducible rfl
        simp only [List.getElem_toArray, List.getElem_cons_succ, List.getElem_cons_zero, Act.put, List.setIfInBounds_toArray, List.set_cons_zero, List.set_cons_succ]
        refine wpAnyH_take (i := 5) (v := ?_) rfl (by kernel_rfl) (by kernel_rfl) (by kernel_rfl) (fun _ _ _ h => h) (Or.inl ⟨by rfl, ?hy⟩) hHeld ?_
        case hy =>
          simp only [List.getElem_toArray, List.getElem_cons_succ, List.getElem_cons_zero]
          intro w' hSw
          (try dsimp only at hSw)
          go_simp
          with_reducible rfl
        simp only [List.getElem_toArray, List.getElem_cons_succ, List.getElem_cons_zero, Act.put, List.setIfInBounds_toArray, List.set_cons_zero, List.set_cons_succ]
        refine wpAnyH_take (i := 6) (v := ?_) rfl (by kernel_rfl) (by kernel_rfl) (by kernel_rfl) (fun _ _ _ h => h) (Or.inl ⟨by rfl, ?hy⟩) hHeld ?_
        case hy =>
          simp only [List.getElem_toArray, List.getElem_cons_succ, List.getElem_cons_zero]
          intro w' hSw
          (try dsimp only at hSw)
          go_simp
          with_reducible rfl
        simp only [List.getElem_toArray, List.getElem_cons_succ, List.getElem_cons_zero, Act.put, List.setIfInBounds_toArray, List.set_cons_zero, List.set_cons_succ]
        refine wpAnyH_take (i := 7) (v := ?_) rfl (by kernel_rfl) (by kernel_rfl) (by kernel_rfl) (fun _ _ _ h => h) (Or.inl ⟨by rfl, ?hy⟩) hHeld ?_
        case hy =>
          simp only [List.getElem_toArray, List.getElem_cons_succ, List.getElem_cons_zero]
          intro w' hSw
          (try dsimp only at hSw)
          go_simp
          with_reducible rfl
        simp only [List.getElem_toArray, List.getElem_cons_succ, List.getElem_cons_zero, Act.put, List.setIfInBounds_toArray, List.set_cons_zero, List.set_cons_succ]
        refine wpAnyH_take (i := 8) (v := ?_) rfl (by kernel_rfl) (by kernel_rfl) (by kernel_rfl) (fun _ _ _ h => h) (Or.inl ⟨by rfl, ?hy⟩) hHeld ?_
        case hy =>
          simp only [List.getElem_toArray, List.getElem_cons_succ, List.getElem_cons_zero]
          intro w' hSw
          (try dsimp only at hSw)
          go_simp
          with_reducible rfl
        simp only [List.getElem_toArray, List.getElem_cons_succ, List.getElem_cons_zero, Act.put, List.setIfInBounds_toArray, List.set_cons_zero, List.set_cons_succ]
        refine wpAnyH_take (i := 9) (v := ?_) rfl (by kernel_rfl) (by kernel_rfl) (by kernel_rfl) (fun _ _ _ h => h) (Or.inl ⟨by rfl, ?hy⟩) hHeld ?_
        case hy =>
          simp only [List.getElem_toArray, List.getElem_cons_succ, List.getElem_cons_zero]
          intro w' hSw
          (try dsimp only at hSw)
          go_simp
          with_reducible rfl
        simp only [List.getElem_toArray, List.getElem_cons_succ, List.getElem_cons_zero, Act.put, List.setIfInBounds_toArray, List.set_cons_zero, List.set_cons_succ]
        refine wpAnyH_take (i := 10) (v := ?_) rfl (by kernel_rfl) (by kernel_rfl) (by kernel_rfl) (fun _ _ _ h => h) (Or.inl ⟨by rfl, ?hy⟩) hHeld ?_
        case hy =>
          simp only [List.getElem_toArray, List.getElem_cons_succ, List.getElem_cons_zero]
          intro w' hSw
          (try dsimp only at hSw)
          go_simp
          with_reducible rfl
        simp only [List.getElem_toArray, List.getElem_cons_succ, List.getElem_cons_zero, Act.put, List.setIfInBounds_toArray, List.set_cons_zero, List.set_cons_succ]
        refine wpAnyH_take (i := 12) (v := ?_) rfl (by kernel_rfl) (by kernel_rfl) (by kernel_rfl) (fun _ _ _ h => h) (Or.inl ⟨by rfl, ?hy⟩) hHeld ?_
        case hy =>
          simp only [List.getElem_toArray, List.getElem_cons_succ, List.getElem_cons_zero]
          intro w' hSw
          (try dsimp only at hSw)
          go_simp
          with_reducible rfl
        simp only [List.getElem_toArray, List.getElem_cons_succ, List.getElem_cons_zero, Act.put, List.setIfInBounds_toArray, List.set_cons_zero, List.set_cons_succ]
        refine wpAnyH_take (i := 13) (v := ?_) rfl (by kernel_rfl) (by kernel_rfl) (by kernel_rfl) (fun _ _ _ h => h) (Or.inl ⟨by rfl, ?hy⟩) hHeld ?_
        case hy =>
          simp only [List.getElem_toArray, List.getElem_cons_succ, List.getElem_cons_zero]
          intro w' hSw
          (try dsimp only at hSw)
          go_simp
          with_reducible rfl
        simp only [List.getElem_toArray, List.getElem_cons_succ, List.getElem_cons_zero, Act.put, List.setIfInBounds_toArray, List.set_cons_zero, List.set_cons_succ]
        refine wpAnyH_take (i := 14) (v := ?_) rfl (by kernel_rfl) (by kernel_rfl) (by kernel_rfl) (fun _ _ _ h => h) (Or.inl ⟨by rfl, ?hy⟩) hHeld ?_
        case hy =>
          simp only [List.getElem_toArray, List.getElem_cons_succ, List.getElem_cons_zero]
          intro w' hSw
          (try dsimp only at hSw)
          go_simp
          with_reducible rfl
        simp only [List.getElem_toArray, List.getElem_cons_succ, List.getElem_cons_zero, Act.put, List.setIfInBounds_toArray, List.set_cons_zero, List.set_cons_succ]
        refine wpAnyH_take (i := 15) (v := ?_) rfl (by kernel_rfl) (by kernel_rfl) (by kernel_rfl) (fun _ _ _ h => h) (Or.inl ⟨by rfl, ?hy⟩) hHeld ?_
        case hy =>
          simp only [List.getElem_toArray, List.getElem_cons_succ, List.getElem_cons_zero]
          intro w' hSw
          (try dsimp only at hSw)
          go_simp
          with_reducible rfl
        simp only [List.getElem_toArray, List.getElem_cons_succ, List.getElem_cons_zero, Act.put, List.setIfInBounds_toArray, List.set_cons_zero, List.set_cons_succ]
        refine wpAnyH_take (i := 16) (v := ?_) rfl (by kernel_rfl) (by kernel_rfl) (by kernel_rfl) (fun _ _ _ h => h) (Or.inl ⟨by rfl, ?hy⟩) hHeld ?_
        case hy =>
          simp only [List.getElem_toArray, List.getElem_cons_succ, List.getElem_cons_zero]
          intro w' hSw
          (try dsimp only at hSw)
          go_simp
          with_reducible rfl
        simp only [List.getElem_toArray, List.getElem_cons_succ, List.getElem_cons_zero, Act.put, List.setIfInBounds_toArray, List.set_cons_zero, List.set_cons_succ]
        refine wpAnyH_take (i := 17) (v := ?_) rfl (by kernel_rfl) (by kernel_rfl) (by kernel_rfl) (fun _ _ _ h => h) (Or.inl ⟨by rfl, ?hy⟩) hHeld ?_
        case hy =>
          simp only [List.getElem_toArray, List.getElem_cons_succ, List.getElem_cons_zero]
          intro w' hSw
          (try dsimp only at hSw)
          go_simp
          with_reducible rfl
        simp only [List.getElem_toArray, List.getElem_cons_succ, List.getElem_cons_zero, Act.put, List.setIfInBounds_toArray, List.set_cons_zero, List.set_cons_succ]
        refine wpAnyH_take (i := 18) (v := ?_) rfl (by kernel_rfl) (by kernel_rfl) (by kernel_rfl) (fun _ _ _ h => h) (Or.inl ⟨by rfl, ?hy⟩) hHeld ?_
        case hy =>
          simp only [List.getElem_toArray, List.getElem_cons_succ, List.getElem_cons_zero]
          intro w' hSw
          (try dsimp only at hSw)
          go_simp
          with_reducible rfl
        simp only [List.getElem_toArray, List.getElem_cons_succ, List.getElem_cons_zero, Act.put, List.setIfInBounds_toArray, List.set_cons_zero, List.set_cons_succ]
        refine wpAnyH_take (i := 19) (v := ?_) rfl (by kernel_rfl) (by kernel_rfl) (by kernel_rfl) (fun _ _ _ h => h) (Or.inl ⟨by rfl, ?hy⟩) hHeld ?_
        case hy =>
          simp only [List.getElem_toArray, List.getElem_cons_succ, List.getElem_cons_zero]
          intro w' hSw
          (try dsimp only at hSw)
          go_simp
          with_reducible rfl
        simp only [List.getElem_toArray, List.getElem_cons_succ, List.getElem_cons_zero, Act.put, List.setIfInBounds_toArray, List.set_cons_zero, List.set_cons_succ]
        refine wpAnyH_take (i := 20) (v := ?_) rfl (by kernel_rfl) (by kernel_rfl) (by kernel_rfl) (fun _ _ _ h => h) (Or.inl ⟨by rfl, ?hy⟩) hHeld ?_
        case hy =>
          simp only [List.getElem_toArray, List.getElem_cons_succ, List.getElem_cons_zero]
          intro w' hSw
          (try dsimp only at hSw)
          go_simp
          with_reducible rfl
        simp only [List.getElem_toArray, List.getElem_cons_succ, List.getElem_cons_zero, Act.put, List.setIfInBounds_toArray, List.set_cons_zero, List.set_cons_succ]
        refine wpAnyH_take (i := 21) (v := ?_) rfl (by kernel_rfl) (by kernel_rfl) (by kernel_rfl) (fun _ _ _ h => h) (Or.inl ⟨by rfl, ?hy⟩) hHeld ?_
        case hy =>
          simp only [List.getElem_toArray, List.getElem_cons_succ, List.getElem_cons_zero]
          intro w' hSw
          (try dsimp only at hSw)
          go_simp
          with_reducible rfl
        simp only [List.getElem_toArray, List.getElem_cons_succ, List.getElem_cons_zero, Act.put, List.setIfInBounds_toArray, List.set_cons_zero, List.set_cons_succ]
        refine wpAnyH_take (i := 22) (v := ?_) rfl (by kernel_rfl) (by kernel_rfl) (by kernel_rfl) (fun _ _ _ h => h) (Or.inl ⟨by rfl, ?hy⟩) hHeld ?_
        case hy =>
          simp only [List.getElem_toArray, List.getElem_cons_succ, List.getElem_cons_zero]
          intro w' hSw
          (try dsimp only at hSw)
          go_simp
          with_reducible rfl
        simp only [List.getElem_toArray, List.getElem_cons_succ, List.getElem_cons_zero, Act.put, List.setIfInBounds_toArray, List.set_cons_zero, List.set_cons_succ]
        refine wpAnyH_take (i := 23) (v := ?_) rfl (by kernel_rfl) (by kernel_rfl) (by kernel_rfl) (fun _ _ _ h => h) (Or.inl ⟨by rfl, ?hy⟩) hHeld ?_
        case hy =>
          simp only [List.getElem_toArray, List.getElem_cons_succ, List.getElem_cons_zero]
          intro w' hSw
          (try dsimp only at hSw)
          go_simp
          with_reducible rfl
        simp only [List.getElem_toArray, List.getElem_cons_succ, List.getElem_cons_zero, Act.put, List.setIfInBounds_toArray, List.set_cons_zero, List.set_cons_succ]
        refine wpAnyH_take (i := 24) (v := ?_) rfl (by kernel_rfl) (by kernel_rfl) (by kernel_rfl) (fun _ _ _ h => h) (Or.inl ⟨by rfl, ?hy⟩) hHeld ?_
        case hy =>
          simp only [List.getElem_toArray, List.getElem_cons_succ, List.getElem_cons_zero]
          intro w' hSw
          (try dsimp only at hSw)
          go_simp
          with_reducible rfl
        simp only [List.getElem_toArray, List.getElem_cons_succ, List.getElem_cons_zero, Act.put, List.setIfInBounds_toArray, List.set_cons_zero, List.set_cons_succ]
        refine wpAnyH_take (i := 25) (v := ?_) rfl (by kernel_rfl) (by kernel_rfl) (by kernel_rfl) (fun _ _ _ h => h) (Or.inl ⟨by rfl, ?hy⟩) hHeld ?_
        case hy =>
          simp only [List.getElem_toArray, List.getElem_cons_succ, List.getElem_cons_zero]
          intro w' hSw
          (try dsimp only at hSw)
          go_simp
          with_reducible rfl
        simp only [List.getElem_toArray, List.getElem_cons_succ, List.getElem_cons_zero, Act.put, List.setIfInBounds_toArray, List.set_cons_zero, List.set_cons_succ]
        refine wpAnyH_ready (rs := [11]) (by kernel_rfl) (by simp) ?_
        refine AllReadyH.cons rfl (fun K hK => ?_) AllReadyH.nil
        simp only [List.getElem_toArray, List.getElem_cons_succ, List.getElem_cons_zero]
        rw [if_pos (by simp [Region.wanted])]
        go_wp2_with (go_at_call 108; refine (unhide HV _).mono ?_; rintro e w2 ⟨rfl, hw⟩; obtain rfl := hw.symm)
        refine hK.out _ _ (by exact hHeld) (fun hHeld2 => ?_)
        clear hK K
        refine wpAnyH_take (i := 26) (v := ?_) rfl (by kernel_rfl) (by kernel_rfl) (by kernel_rfl) (fun _ _ _ h => h) (Or.inl ⟨by rfl, ?hy⟩) hHeld2 ?_
        case hy =>
          simp only [List.getElem_toArray, List.getElem_cons_succ, List.getElem_cons_zero]
          intro w' hSw
          (try dsimp only at hSw)
          go_simp
          with_reducible rfl
        simp only [List.getElem_toArray, List.getElem_cons_succ, List.getElem_cons_zero, Act.put, List.setIfInBounds_toArray, List.set_cons_zero, List.set_cons_succ]
        refine wpAnyH_take (i := 27) (v := ?_) rfl (by kernel_rfl) (by kernel_rfl) (by kernel_rfl) (fun _ _ _ h => h) (Or.inl ⟨by rfl, ?hy⟩) hHeld2 ?_
        case hy =>
          simp only [List.getElem_toArray, List.getElem_cons_succ, List.getElem_cons_zero]
          intro w' hSw
          (try dsimp only at hSw)
          go_simp
          with_reducible rfl
        simp only [List.getElem_toArray, List.getElem_cons_succ, List.getElem_cons_zero, Act.put, List.setIfInBounds_toArray, List.set_cons_zero, List.set_cons_succ]
        refine wpAnyH_done (by kernel_rfl) ?_ _
        refine last_step rfl (fun K hK => ?_)
        go_simp
        refine (unhide hK) _ _ ?_
        clear hK K
        go_wp2_with fail
        go_meet
        case rel =>
          refine ⟨((unhide X0).putS _ _ _ _ _ _ _ _ _).drew, Box.drew ?_, Below.drew ?_⟩
          · repeat (refine Box.off ?_ (by simp) _)
            exact unhide Y0
          · repeat (refine Below.setCell ?_ (by simp) _)
            exact unhide B0
      case rest =>
        obtain ⟨x1, y1, b1⟩ := hcut
        have X1 := hide x1
        have Y1 := hide y1
        have B1 := hide b1
        clear x1 y1 b1 cx fx cy fy X0 Y0 B0
        obtain ⟨cx, fx, gx⟩ := unhide X1
        obtain ⟨cy, fy, gy⟩ := unhide Y1
        clear gx gy
        go_upto_region 5 with fail
        go_cut [5] (fun x5 wx => x5 = .bool lg ∧ Box wx (w.heap.size + 1) #[.int .u8 67, .int .i64 kk, .int .i64 nn, .int .i64 nn, .int .i64 (Code.byt t 7 : Nat), .string (t.extract 8 12), .string (t.extract 12 28), .int .i64 (ck : Nat), .int .i64 ((Code.byt t 30 : Int) - 1), .int .i64 ((Code.byt t 31 : Int) - 1), .bool (((Code.byt t 32 : Nat) : Int) % 2 != 0), .bool (2 * (((Code.byt t 32 : Nat) : Int) / 2 % 2) != 0), .int .i64 0, .int .i64 0, .bool false] ∧ Below w.heap.size w wx)
        case first =>
          go_region_held3 (fun u => u.cell? ⟨w.heap.size, 0, none⟩ = some (.int .u8 67) ∧ u.cell? ⟨w.heap.size, 1, none⟩ = some (.int .i64 kk) ∧ u.cell? ⟨w.heap.size, 2, none⟩ = some (.int .i64 nn) ∧ u.cell? ⟨w.heap.size, 3, none⟩ = some (.int .i64 nn) ∧ u.cell? ⟨w.heap.size, 4, none⟩ = some (.int .i64 (Code.byt t 7 : Nat)) ∧ u.cell? ⟨w.heap.size, 5, none⟩ = some (.string (t.extract 8 12)) ∧ u.cell? ⟨w.heap.size, 6, none⟩ = some (.string (t.extract 12 28)) ∧ u.cell? ⟨w.heap.size, 7, none⟩ = some (.int .i64 (ck : Nat)) ∧ u.cell? ⟨w.heap.size, 8, none⟩ = some (.int .i64 ((Code.byt t 30 : Int) - 1)) ∧ u.cell? ⟨w.heap.size, 9, none⟩ = some (.int .i64 ((Code.byt t 31 : Int) - 1)) ∧ u.cell? ⟨w.heap.size, 10, none⟩ = some (.bool (((Code.byt t 32 : Nat) : Int) % 2 != 0)) ∧ u.cell? ⟨w.heap.size, 11, none⟩ = some (.bool (2 * (((Code.byt t 32 : Nat) : Int) / 2 % 2) != 0)) ∧ u.cell? ⟨w.heap.size, 12, none⟩ = some (.int .i64 0) ∧ u.cell? ⟨w.heap.size, 13, none⟩ = some (.int .i64 0) ∧ u.cell? ⟨w.heap.size, 14, none⟩ = some (.bool false)) (first | go_keep | (go_simp; done)) (first | (go_at_call 100; refine (unhide HL _).mono ?_; rintro e w2 ⟨rfl, hb⟩; have L2 := hide (bel_undrew hb); clear hb; have X2 := hide ((unhide X1).next (unhide L2)); have Y2 := hide ((unhide Y1).next (unhide L2)); obtain ⟨cx2, fx2, gx2⟩ := unhide X2; obtain ⟨cy2, fy2, gy2⟩ := unhide Y2; clear gx2 gy2))
          all_goals
            go_wp2_with fail
            go_meet
            case rel =>
              refine ⟨rfl, (unhide Y2).putF _ _ _ _ _ _ _ _ _ _ _ _ _ _ _, ?_⟩
              have B2 := (unhide B1).trans ((unhide L2).mono (unhide B1).size)
              have s2 := B2.size
              repeat (refine Below.setCell ?_ (by simp) _)
              exact B2
        case rest =>
          obtain ⟨rfl, y2, b2⟩ := hcut
          have B2 := hide b2
          clear cx fx cy fy b2
          obtain ⟨cz, fz, gz⟩ := y2
          go_wp2_with fail
          refine bodyPost_ret (v := .tuple #[.agg #[.int .u8 67, .int .i64 kk, .int .i64 nn, .int .i64 nn, .int .i64 (Code.byt t 7 : Nat), .string (t.extract 8 12), .string (t.extract 12 28), .int .i64 (ck : Nat), .int .i64 ((Code.byt t 30 : Int) - 1), .int .i64 ((Code.byt t 31 : Int) - 1), .bool (((Code.byt t 32 : Nat) : Int) % 2 != 0), .bool (2 * (((Code.byt t 32 : Nat) : Int) / 2 % 2) != 0), .int .i64 0, .int .i64 0, .bool false], .bool lg]) (by simp [results, Tryz.results109, go_sem, cz]) rfl ⟨_, rfl, fun _ => (unhide HE).symm, (unhide HE) ▸ unhide HW, unhide B2⟩
  · have d3 : decide (Code.byt t 32 ≤ 3) = false := by simp [h3]
    have h3' : (3 : Int) < ((Code.byt t 32 : Nat) : Int) := by omega
    simp only [d3, Bool.false_and]
    go_enter Tryz.func109, Tryz.ntmps109
    go_wp2_with fail
    refine bodyPost_ret (v := .tuple #[.agg #[.int .u8 0, .int .i64 0, .int .i64 0, .int .i64 0, .int .i64 0, .string ⟨#[]⟩, .string ⟨#[]⟩, .int .i64 0, .int .i64 0, .int .i64 0, .bool false, .bool false, .int .i64 0, .int .i64 0, .bool false], .bool false]) (by simp [results, Tryz.results109, go_sem]) rfl ⟨_, rfl, (fun h => by cases h), ⟨0, 0, 0, Mach.zero, Hist.noCh, rfl⟩, ?_⟩
    exact ((Below.refl _ _).alloc (Nat.le_refl _) _).alloc (by simp) _
end Go.Proofs.YtcmoffiigpchiaaGreat
