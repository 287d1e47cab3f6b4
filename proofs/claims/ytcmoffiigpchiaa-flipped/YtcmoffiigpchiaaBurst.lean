import Derived.Test.YtcmoffiigpchiaaBase
namespace Go.Proofs.Ytcmoffiigpchiaa
namespace Crc

theorem xor_mod2 (a b : Nat) : (a ^^^ b) % 2 = (a % 2 + b % 2) % 2 := by rw [xor_odd, Nat.add_mod]
theorem one_zero : one 0 = 0 := rfl
/-- One bit of the sum is linear. -/
theorem one_xor (a b : Nat) : one (a ^^^ b) = one a ^^^ one b := by
  unfold one
  rw [xor_half, xor_mod2]
  rcases Nat.mod_two_eq_zero_or_one a with ha | ha <;> rcases Nat.mod_two_eq_zero_or_one b with hb | hb <;> simp only [ha, hb]
  · simp
  · simp [Nat.xor_assoc]
  · simp only [if_true, show ¬ (0 : Nat) = 1 by omega, if_false]
    rw [Nat.xor_assoc, Nat.xor_assoc, Nat.xor_comm (b / 2)]
  · simp only [show ((1 : Nat) + 1) % 2 = 0 from rfl, if_true, show ¬ (0 : Nat) = 1 by omega, if_false]
    rw [Nat.xor_assoc, Nat.xor_comm 3988292384 (b / 2 ^^^ 3988292384), Nat.xor_assoc (b / 2), Nat.xor_self, Nat.xor_zero]
theorem many_one (k v : Nat) : many (k + 1) v = many k (one v) := by
  induction k with
  | zero => rfl
  | succ k ih => show one (many (k + 1) v) = one (many k (one v)); rw [ih]
theorem many_zero (k : Nat) : many k 0 = 0 := by
  induction k with
  | zero => rfl
  | succ k ih => show one (many k 0) = 0; rw [ih]; rfl
/-- The turner has its highest bit: nothing that is not 0 becomes 0. -/
theorem one_ne {v : Nat} (h : v < 4294967296) (hv : v ≠ 0) : one v ≠ 0 := by
  unfold one
  split
  · intro e
    have hb : (v / 2 ^^^ 3988292384).testBit 31 = true := by
      rw [Nat.testBit_xor]
      have h1 : (v / 2).testBit 31 = false := Nat.testBit_lt_two_pow (by omega)
      rw [h1]
      decide
    rw [e] at hb
    simp at hb
  · omega
theorem many_ne (k : Nat) {v : Nat} (h : v < 4294967296) (hv : v ≠ 0) : many k v ≠ 0 := by
  induction k with
  | zero => exact hv
  | succ k ih => exact one_ne (many_lt k h) ih

/-- So many bits of a number, the lowest first, one behind the other. -/
def feed (v y : Nat) : Nat → Nat
  | 0 => v
  | k + 1 => feed (one (v ^^^ (y % 2))) (y / 2) k
theorem bit_lt {v y : Nat} (h : v < 4294967296) : v ^^^ (y % 2) < 4294967296 := by
  have := Nat.xor_lt_two_pow (x := v) (y := y % 2) (n := 32) (by omega) (by omega)
  simpa using this
theorem feed_lt (k : Nat) : ∀ {v : Nat} (y : Nat), v < 4294967296 → feed v y k < 4294967296 := by
  induction k with
  | zero => intro v y h; exact h
  | succ k ih => intro v y h; exact ih _ (one_lt (bit_lt h))
theorem feed_zero_bits (k : Nat) : ∀ v, feed v 0 k = many k v := by
  induction k with
  | zero => intro v; rfl
  | succ k ih => intro v; show feed (one (v ^^^ 0)) (0 / 2) k = _; rw [Nat.xor_zero, many_one]; exact ih _
theorem feed_xor (k : Nat) : ∀ (v v' y y' : Nat), feed (v ^^^ v') (y ^^^ y') k = feed v y k ^^^ feed v' y' k := by
  induction k with
  | zero => intro v v' y y'; rfl
  | succ k ih =>
    intro v v' y y'
    show feed (one ((v ^^^ v') ^^^ ((y ^^^ y') % 2))) ((y ^^^ y') / 2) k = _
    have e : (y ^^^ y') % 2 = (y % 2) ^^^ (y' % 2) := by
      rw [xor_mod2]
      rcases Nat.mod_two_eq_zero_or_one y with ha | ha <;> rcases Nat.mod_two_eq_zero_or_one y' with hb | hb <;> rw [ha, hb] <;> rfl
    rw [e, xor_half, show (v ^^^ v') ^^^ ((y % 2) ^^^ (y' % 2)) = (v ^^^ (y % 2)) ^^^ (v' ^^^ (y' % 2)) by
      rw [Nat.xor_assoc, Nat.xor_assoc, ← Nat.xor_assoc v' (y % 2), Nat.xor_comm v' (y % 2), Nat.xor_assoc (y % 2)], one_xor]
    exact ih _ _ _ _
theorem feed_add (j k : Nat) : ∀ (v y : Nat), feed v y (j + k) = feed (feed v y j) (y / 2 ^ j) k := by
  induction j with
  | zero => intro v y; simp [feed]
  | succ j ih =>
    intro v y
    rw [show j + 1 + k = (j + k) + 1 by omega]
    show feed (one (v ^^^ (y % 2))) (y / 2) (j + k) = _
    rw [ih]
    show _ = feed (feed (one (v ^^^ (y % 2))) (y / 2) j) (y / 2 ^ (j + 1)) k
    rw [Nat.div_div_eq_div_mul, Nat.pow_succ, Nat.mul_comm 2]
/-- What is fed to 0 and leaves 0 was nothing. -/
theorem feed_back (k : Nat) : ∀ (v y : Nat), v < 4294967296 → k ≤ 32 → y < 2 ^ k → feed v y k = 0 → v = y := by
  induction k with
  | zero => intro v y _ _ hy h; simp at hy; simp [feed] at h; omega
  | succ k ih =>
    intro v y hv hk hy h
    have hy2 : y / 2 < 2 ^ k := by rw [Nat.pow_succ] at hy; omega
    have hb := bit_lt (y := y) hv
    have e := ih (one (v ^^^ (y % 2))) (y / 2) (one_lt hb) (by omega) hy2 h
    have h31 : y / 2 < 2 ^ 31 := Nat.lt_of_lt_of_le hy2 (Nat.pow_le_pow_right (by omega) (by omega))
    unfold one at e
    split at e
    · exfalso
      have hb' : ((v ^^^ y % 2) / 2 ^^^ 3988292384).testBit 31 = true := by
        rw [Nat.testBit_xor]
        have h1 : ((v ^^^ y % 2) / 2).testBit 31 = false := Nat.testBit_lt_two_pow (by omega)
        rw [h1]
        decide
      rw [e] at hb'
      have h2 : (y / 2).testBit 31 = false := Nat.testBit_lt_two_pow h31
      rw [h2] at hb'
      exact absurd hb' (by decide)
    · rename_i hodd
      rw [xor_half, show y % 2 / 2 = 0 by omega, Nat.xor_zero] at e
      rw [xor_mod2] at hodd
      omega
theorem feed_ne {k m : Nat} (hk : k ≤ 32) (hm : m < 2 ^ k) (h0 : m ≠ 0) : feed 0 m k ≠ 0 := fun h => h0 (feed_back k 0 m (by omega) hk hm h).symm

/-- BITS THAT LIE WITHIN 32 ONE BEHIND THE OTHER ARE TOLD. -/
theorem burst {f r m : Nat} (h0 : m ≠ 0) (h32 : m < 2 ^ 32) (hr : m < 2 ^ r) : feed 0 (m * 2 ^ f) (f + r) ≠ 0 := by
  have hz : ∀ f, feed 0 (m * 2 ^ f) f = 0 := by
    intro f
    induction f with
    | zero => rfl
    | succ f ih =>
      show feed (one (0 ^^^ (m * 2 ^ (f + 1) % 2))) (m * 2 ^ (f + 1) / 2) f = 0
      have e : m * 2 ^ (f + 1) = 2 * (m * 2 ^ f) := by rw [Nat.pow_succ, ← Nat.mul_assoc]; omega
      rw [e, show 2 * (m * 2 ^ f) % 2 = 0 by omega, show 2 * (m * 2 ^ f) / 2 = m * 2 ^ f by omega]
      exact ih
  rw [feed_add, hz f, Nat.mul_div_cancel _ (Nat.two_pow_pos f)]
  by_cases h : r ≤ 32
  · exact feed_ne h hr h0
  · rw [show r = 32 + (r - 32) by omega, feed_add, show m / 2 ^ 32 = 0 by omega, feed_zero_bits]
    exact many_ne _ (feed_lt 32 _ (by omega)) (feed_ne (by omega) h32 h0)

/-! ### Bytes -/
theorem split2 (y : Nat) : (y % 2) ^^^ (2 * (y / 2)) = y := by
  apply Nat.eq_of_testBit_eq
  intro i
  rw [Nat.testBit_xor]
  cases i with
  | zero => simp [Nat.testBit_zero]
  | succ i =>
    rw [Nat.testBit_succ, Nat.testBit_succ, Nat.testBit_succ, show y % 2 / 2 = 0 by omega, show 2 * (y / 2) / 2 = y / 2 by omega]
    simp
theorem one_double (n : Nat) : one (2 * n) = n := by
  unfold one
  rw [if_neg (by omega)]
  omega
theorem many_feed (k : Nat) : ∀ (v y : Nat), many k (v ^^^ y) = feed v y k ^^^ (y / 2 ^ k) := by
  induction k with
  | zero => intro v y; simp [many, feed]
  | succ k ih =>
    intro v y
    rw [many_one]
    have e : one (v ^^^ y) = one (v ^^^ (y % 2)) ^^^ (y / 2) := by
      conv => rhs; rw [← one_double (y / 2), ← one_xor, Nat.xor_assoc, split2]
    rw [e, ih]
    show feed (one (v ^^^ (y % 2))) (y / 2) k ^^^ (y / 2 / 2 ^ k) = feed (one (v ^^^ (y % 2))) (y / 2) k ^^^ (y / 2 ^ (k + 1))
    rw [Nat.div_div_eq_div_mul, Nat.pow_succ, Nat.mul_comm 2]
theorem byte_feed {v b : Nat} (hb : b < 256) : byte v b = feed v b 8 := by
  unfold byte
  rw [many_feed, show b / 2 ^ 8 = 0 by omega, Nat.xor_zero]
theorem feed_congr (k : Nat) : ∀ (v y z : Nat), feed v (y + 2 ^ k * z) k = feed v y k := by
  induction k with
  | zero => intro v y z; rfl
  | succ k ih =>
    intro v y z
    show feed (one (v ^^^ ((y + 2 ^ (k + 1) * z) % 2))) ((y + 2 ^ (k + 1) * z) / 2) k = feed (one (v ^^^ (y % 2))) (y / 2) k
    have e : 2 ^ (k + 1) * z = 2 * (2 ^ k * z) := by rw [Nat.pow_succ, Nat.mul_comm (2 ^ k) 2, Nat.mul_assoc]
    rw [e, show (y + 2 * (2 ^ k * z)) % 2 = y % 2 by omega, show (y + 2 * (2 ^ k * z)) / 2 = y / 2 + 2 ^ k * z by omega]
    exact ih _ _ _
/-- Bytes as one number, the first lowest. -/
def numL : List UInt8 → Nat
  | [] => 0
  | b :: r => b.toNat + 256 * numL r
theorem over_feed (l : List UInt8) : ∀ v, over v l = feed v (numL l) (8 * l.length) := by
  induction l with
  | nil => intro v; rfl
  | cons b r ih =>
    intro v
    show over (byte v b.toNat) r = _
    rw [ih, byte_feed b.toNat_lt]
    show _ = feed v (b.toNat + 256 * numL r) (8 * (r.length + 1))
    have h1 := feed_congr 8 v b.toNat (numL r)
    have h2 : (b.toNat + 256 * numL r) / 2 ^ 8 = numL r := by have := b.toNat_lt; omega
    rw [show 8 * (r.length + 1) = 8 + 8 * r.length by omega, feed_add, h2, show (256 : Nat) = 2 ^ 8 from rfl, h1]
theorem over_append (a b : List UInt8) : ∀ v, over v (a ++ b) = over (over v a) b := by
  induction a with
  | nil => intro v; rfl
  | cons c r ih => intro v; exact ih _
theorem numL_snoc (l : List UInt8) (b : UInt8) : numL (l ++ [b]) = numL l + 256 ^ l.length * b.toNat := by
  induction l with
  | nil => simp [numL]
  | cons c r ih =>
    show c.toNat + 256 * numL (r ++ [b]) = c.toNat + 256 * numL r + 256 ^ (r.length + 1) * b.toNat
    rw [ih, Nat.pow_succ, Nat.mul_add, Nat.mul_comm (256 ^ r.length) 256, Nat.mul_assoc]
    omega
theorem numL_low (v k : Nat) : numL (Frame.lowL v k) = v % 256 ^ k := by
  induction k with
  | zero => simp [Frame.lowL, numL]; omega
  | succ k ih =>
    show numL (Frame.lowL v k ++ [UInt8.ofNat (v / 256 ^ k % 256)]) = _
    rw [numL_snoc, ih, Frame.lowL_length]
    have : (UInt8.ofNat (v / 256 ^ k % 256)).toNat = v / 256 ^ k % 256 := by simp
    rw [this, Nat.pow_succ, Nat.mod_mul]
theorem feed_self (k : Nat) : ∀ v, v < 2 ^ k → feed v v k = 0 := by
  induction k with
  | zero => intro v h; simp at h; simp [feed, h]
  | succ k ih =>
    intro v h
    show feed (one (v ^^^ (v % 2))) (v / 2) k = 0
    have e : v ^^^ (v % 2) = 2 * (v / 2) := by
      have h2 : ((v % 2) ^^^ (2 * (v / 2))) ^^^ (v % 2) = v ^^^ (v % 2) := by rw [split2]
      rw [Nat.xor_comm (v % 2) (2 * (v / 2)), Nat.xor_assoc, Nat.xor_self, Nat.xor_zero] at h2
      exact h2.symm
    rw [e, one_double]
    exact ih _ (by rw [Nat.pow_succ] at h; omega)
/-- What a frame with a right sum leaves. -/
def rest : Nat := feed 0 4294967295 32
theorem feed_flip {v : Nat} (h : v < 4294967296) : feed v (4294967295 - v) 32 = rest := by
  rw [← flip h]
  have := feed_xor 32 v 0 v 4294967295
  rw [Nat.xor_zero] at this
  rw [this, feed_self 32 v (by omega), Nat.zero_xor]
  rfl
theorem sealed_rest (t : ByteArray) : over 4294967295 (Frame.sealed t).data.toList = rest := by
  have e : (Frame.sealed t).data.toList = t.data.toList ++ Frame.lowL (sum t.data.toList) 4 := by
    unfold Frame.sealed
    rw [ByteArray.data_append]
    simp [Frame.lowB]
  have hlt := over_lt t.data.toList (v := 4294967295) (by omega)
  rw [e, over_append, over_feed (Frame.lowL _ 4), Frame.lowL_length, numL_low]
  have hs : sum t.data.toList % 256 ^ 4 = 4294967295 - over 4294967295 t.data.toList := by
    have := sum_lt t.data.toList
    rw [Nat.mod_eq_of_lt (by omega)]
    rfl
  rw [hs]
  exact feed_flip hlt
/-- TWO TEXTS OF ONE LENGTH THAT PART WITHIN 32 BITS ONE BEHIND THE OTHER LEAVE TWO SUMS. -/
theorem burst_bytes {l l' : List UInt8} (hl : l.length = l'.length) {v m f : Nat} (h0 : m ≠ 0) (h32 : m < 2 ^ 32) (hd : numL l ^^^ numL l' = m * 2 ^ f) (hlt : m * 2 ^ f < 2 ^ (8 * l.length)) : over v l ≠ over v l' := by
  intro e
  have hf : f < 8 * l.length := by
    have h1 : 2 ^ f ≤ m * 2 ^ f := Nat.le_mul_of_pos_left _ (by omega)
    exact (Nat.pow_lt_pow_iff_right (by omega)).1 (Nat.lt_of_le_of_lt h1 hlt)
  have hm : m < 2 ^ (8 * l.length - f) := by
    have h2 : 2 ^ (8 * l.length) = 2 ^ (8 * l.length - f) * 2 ^ f := by rw [← Nat.pow_add]; congr 1; omega
    rw [h2] at hlt
    exact Nat.lt_of_mul_lt_mul_right hlt
  have hb := burst (f := f) (r := 8 * l.length - f) h0 h32 hm
  rw [show f + (8 * l.length - f) = 8 * l.length by omega, ← hd] at hb
  apply hb
  have hx := feed_xor (8 * l.length) v v (numL l) (numL l')
  rw [Nat.xor_self] at hx
  rw [hx, ← over_feed, hl, ← over_feed, e, Nat.xor_self]
end Crc
end Go.Proofs.Ytcmoffiigpchiaa
