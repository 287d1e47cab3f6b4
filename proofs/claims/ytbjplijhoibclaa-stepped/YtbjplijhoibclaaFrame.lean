import Derived.Test.YtbjplijhoibclaaMach2
import Derived.Test.YtbjplijhoibclaaCrc
namespace Go.Proofs.Ytbjplijhoibclaa
namespace Frame

/-- A number in so many bytes, the lowest first. -/
def lowL (v : Nat) : Nat → List UInt8
  | 0 => []
  | k + 1 => lowL v k ++ [UInt8.ofNat (v / 256 ^ k % 256)]
def lowB (v k : Nat) : ByteArray := ⟨(lowL v k).toArray⟩
theorem lowL_length (v k : Nat) : (lowL v k).length = k := by
  induction k with
  | zero => rfl
  | succ k ih => simp [lowL, ih]
theorem lowB_size (v k : Nat) : (lowB v k).size = k := by
  show (lowL v k).toArray.size = k
  simp [lowL_length]
theorem lowB_zero (v : Nat) : lowB v 0 = ⟨#[]⟩ := rfl
theorem lowB_succ (v k : Nat) : lowB v (k + 1) = lowB v k ++ ⟨#[UInt8.ofNat (v / 256 ^ k % 256)]⟩ := by
  apply ByteArray.ext
  show (lowL v (k + 1)).toArray = ((lowB v k) ++ ⟨#[UInt8.ofNat (v / 256 ^ k % 256)]⟩).data
  rw [ByteArray.data_append]
  simp [lowL, lowB]

/-- So many bytes 0. -/
def zeroB (k : Nat) : ByteArray := ⟨(List.replicate k 0).toArray⟩
theorem zeroB_size (k : Nat) : (zeroB k).size = k := by
  show (List.replicate k (0 : UInt8)).toArray.size = k
  simp

def bitN (b : Bool) : Nat := if b then 1 else 0

/-- With the sum behind. -/
def sealed (t : ByteArray) : ByteArray := t ++ lowB (Crc.sum t.data.toList) 4
theorem sealed_size (t : ByteArray) : (sealed t).size = t.size + 4 := by
  unfold sealed
  rw [ByteArray.size_append, lowB_size]

/-- The bytes of a frame ahead of its sum. -/
def bodyC (k : Nat) (s : StV) : ByteArray :=
  (((⟨#[67]⟩ ++ lowB (k % 65536) 2 ++ lowB s.n.toNat 4 ++ lowB s.pc.toNat 1 ++ s.regs ++ s.cells ++ lowB s.clock.toNat 2) ++ lowB (s.handler + 1).toNat 1) ++ lowB (s.back + 1).toNat 1) ++ lowB (bitN s.pending + 2 * bitN s.halted) 1 ++ zeroB 3
def bodyE (k : Nat) (n : Nat) (c : ChV) : ByteArray :=
  ⟨#[69]⟩ ++ lowB (k % 65536) 2 ++ lowB n 4 ++ lowB c.input.toNat 1 ++ lowB c.ticks.toNat 1 ++ lowB (bitN c.interrupt) 1 ++ zeroB 26
def ofState (k : Nat) (s : StV) : ByteArray := sealed (bodyC k s)
def ofChoice (k n : Nat) (c : ChV) : ByteArray := sealed (bodyE k n c)
theorem ofState_size {k : Nat} {s : StV} (h : Mach.Legal s) : (ofState k s).size = 40 := by
  unfold ofState bodyC
  rw [sealed_size]
  simp only [ByteArray.size_append, lowB_size, zeroB_size, h.regs, h.cells]
  rfl
theorem ofChoice_size (k n : Nat) (c : ChV) : (ofChoice k n c).size = 40 := by
  unfold ofChoice bodyE
  rw [sealed_size]
  simp only [ByteArray.size_append, lowB_size, zeroB_size]
  rfl

/-- The state at the beginning. -/
def begin : StV := ⟨0, 0, zeroB 4, zeroB 16, 0, -1, -1, false, false⟩

/-- The number in bytes, the lowest first: of the bytes from a place on. -/
def highUp (s : ByteArray) (k : Nat) : Nat → Nat
  | 0 => 0
  | f + 1 => Code.byt s k + 256 * highUp s (k + 1) f
def highFrom (s : ByteArray) (k : Nat) : Nat := highUp s k (s.size - k)
def highN (s : ByteArray) : Nat := highFrom s 0
theorem highFrom_size (s : ByteArray) : highFrom s s.size = 0 := by simp [highFrom, highUp]
theorem highFrom_succ' (s : ByteArray) (k : Nat) (h : k < s.size) : highFrom s k = Code.byt s k + 256 * highFrom s (k + 1) := by
  unfold highFrom
  rw [show s.size - k = (s.size - (k + 1)) + 1 by omega]
  rfl
theorem highFrom_succ (s : ByteArray) (k : Nat) (h : k < s.size) : highFrom s k = highFrom s (k + 1) * 256 + Code.byt s k := by
  rw [highFrom_succ' s k h]; omega
theorem highUp_lt (s : ByteArray) (f : Nat) : ∀ k, highUp s k f < 256 ^ f := by
  induction f with
  | zero => intro k; simp [highUp]
  | succ f ih =>
    intro k
    have h1 := ih (k + 1)
    have h2 := Code.byt_lt s k
    simp only [highUp, Nat.pow_succ]
    omega
theorem highFrom_lt (s : ByteArray) (k : Nat) : highFrom s k < 256 ^ (s.size - k) := highUp_lt s _ k
end Frame
end Go.Proofs.Ytbjplijhoibclaa
