import Derived.Laws.Entries
namespace Go.Proofs.Ytbjplijhoibclaa
namespace Crc

/-- One bit of the sum. -/
def one (v : Nat) : Nat := if v % 2 = 1 then (v / 2) ^^^ 3988292384 else v / 2
def many : Nat → Nat → Nat
  | 0, v => v
  | k + 1, v => one (many k v)
def byte (v b : Nat) : Nat := many 8 (v ^^^ b)
def over (v : Nat) : List UInt8 → Nat
  | [] => v
  | b :: r => over (byte v b.toNat) r
def sum (l : List UInt8) : Nat := 4294967295 - over 4294967295 l

theorem one_lt {v : Nat} (h : v < 4294967296) : one v < 4294967296 := by
  unfold one
  split
  · have := Nat.xor_lt_two_pow (x := v / 2) (y := 3988292384) (n := 32) (by omega) (by omega)
    simpa using this
  · omega
theorem many_lt (k : Nat) {v : Nat} (h : v < 4294967296) : many k v < 4294967296 := by
  induction k with
  | zero => exact h
  | succ k ih => exact one_lt ih
theorem xor_byte_lt {v b : Nat} (h : v < 4294967296) (hb : b < 256) : v ^^^ b < 4294967296 := by
  have := Nat.xor_lt_two_pow (x := v) (y := b) (n := 32) (by omega) (by omega)
  simpa using this
theorem byte_lt {v b : Nat} (h : v < 4294967296) (hb : b < 256) : byte v b < 4294967296 := many_lt 8 (xor_byte_lt h hb)
theorem over_lt (l : List UInt8) : ∀ {v : Nat}, v < 4294967296 → over v l < 4294967296 := by
  induction l with
  | nil => intro v h; exact h
  | cons b r ih => intro v h; exact ih (byte_lt h b.toNat_lt)
theorem over_snoc (l : List UInt8) (b : UInt8) : ∀ v, over v (l ++ [b]) = byte (over v l) b.toNat := by
  induction l with
  | nil => intro v; rfl
  | cons c r ih => intro v; exact ih _
theorem sum_lt (l : List UInt8) : sum l < 4294967296 := by unfold sum; omega

/-- Turning all 32 bits is taking away from all ones. -/
theorem flip {v : Nat} (h : v < 4294967296) : v ^^^ 4294967295 = 4294967295 - v := by
  have e : (4294967295 - v : Nat) = 2 ^ 32 - (v + 1) := by omega
  rw [e]
  apply Nat.eq_of_testBit_eq
  intro i
  rw [Nat.testBit_two_pow_sub_succ (by omega), Nat.testBit_xor, show (4294967295 : Nat) = 2 ^ 32 - 1 from rfl, Nat.testBit_two_pow_sub_one]
  by_cases hi : i < 32
  · simp [hi]
  · have : v.testBit i = false := Nat.testBit_lt_two_pow (Nat.lt_of_lt_of_le (by omega : v < 2 ^ 32) (Nat.pow_le_pow_right (by omega) (by omega)))
    simp [hi, this]

theorem xor_half (v b : Nat) : (v ^^^ b) / 2 = (v / 2) ^^^ (b / 2) := by
  exact Nat.xor_div_two
theorem xor_odd (v b : Nat) : (v ^^^ b) % 2 = (v + b) % 2 := by
  have h := Nat.xor_mod_two_pow (a := v) (b := b) (n := 1)
  simp only [Nat.pow_one] at h
  rw [h]
  rcases Nat.mod_two_eq_zero_or_one v with h1 | h1 <;> rcases Nat.mod_two_eq_zero_or_one b with h2 | h2 <;> rw [h1, h2, Nat.add_mod, h1, h2] <;> rfl
/-- The document's own step: a bit of the byte beside a bit of the sum. -/
def pairStep (v b : Nat) : Nat := if (v + b) % 2 = 1 then (v / 2) ^^^ 3988292384 else v / 2
theorem pair_one (v b : Nat) : pairStep v b ^^^ (b / 2) = one (v ^^^ b) := by
  unfold pairStep one
  rw [xor_odd, xor_half]
  split
  · rw [Nat.xor_assoc, Nat.xor_assoc, Nat.xor_comm 3988292384]
  · rfl
theorem pair_lt {v : Nat} (b : Nat) (h : v < 4294967296) : pairStep v b < 4294967296 := by
  unfold pairStep
  split
  · have := Nat.xor_lt_two_pow (x := v / 2) (y := 3988292384) (n := 32) (by omega) (by omega)
    simpa using this
  · omega
theorem and_one (v : Nat) : v &&& 1 = v % 2 := by simp
end Crc
end Go.Proofs.Ytbjplijhoibclaa
