import Derived.Test.YtcmoffiigpchiaaBase
namespace Go.Proofs.Ytcmoffiigpchiaa
open _root_.Go.Proofs.Ytcmoffiigpchiaa.Code (byt)

theorem ext_byt {a b : ByteArray} (hs : a.size = b.size) (h : ∀ i, i < a.size → byt a i = byt b i) : a = b := by
  apply ByteArray.ext
  apply Array.ext hs
  intro i h1 h2
  have e := h i h1
  rw [← Code.byt_eq a i h1, ← Code.byt_eq b i h2] at e
  exact UInt8.toNat_inj.1 e
theorem size_ex (f : ByteArray) {a b : Nat} (hb : b ≤ f.size) : (f.extract a b).size = b - a := by
  rw [ByteArray.size_extract]; omega
theorem byt_ex (f : ByteArray) {a b j : Nat} (hb : b ≤ f.size) (h : a + j < b) : byt (f.extract a b) j = byt f (a + j) := by
  have h1 : j < (f.extract a b).size := by rw [size_ex f hb]; omega
  rw [← Code.byt_eq _ _ h1, ← Code.byt_eq _ _ (show a + j < f.size by omega)]
  congr 1
  show (f.extract a b).data[j]'h1 = f.data[a + j]'(show a + j < f.data.size from (by have : f.data.size = f.size := rfl; omega))
  simp only [ByteArray.data_extract]
  exact Array.getElem_extract _
theorem ex_app (f : ByteArray) {a b c : Nat} (h1 : a ≤ b) (h2 : b ≤ c) (h3 : c ≤ f.size) : f.extract a b ++ f.extract b c = f.extract a c := by
  apply ext_byt
  · rw [ByteArray.size_append, size_ex f (by omega), size_ex f h3, size_ex f h3]; omega
  · intro i hi
    rw [ByteArray.size_append, size_ex f (by omega), size_ex f h3] at hi
    rw [byt_ex f h3 (by omega)]
    by_cases hl : i < b - a
    · rw [byt_left (by rw [size_ex f (by omega)]; omega), byt_ex f (by omega) (by omega)]
    · have e : i = (f.extract a b).size + (i - (b - a)) := by rw [size_ex f (by omega)]; omega
      rw [e, byt_right (by rw [size_ex f h3]; omega), byt_ex f h3 (by omega), ← e]
      congr 1
      omega
theorem ex_ex (f : ByteArray) {a b c d : Nat} (hb : b ≤ f.size) (hd : a + d ≤ b) : (f.extract a b).extract c d = f.extract (a + c) (a + d) := by
  apply ext_byt
  · rw [size_ex _ (by rw [size_ex f hb]; omega), size_ex f (by omega)]; omega
  · intro i hi
    rw [size_ex _ (by rw [size_ex f hb]; omega)] at hi
    rw [byt_ex _ (by rw [size_ex f hb]; omega) (by omega), byt_ex f hb (by omega), byt_ex f (by omega) (by omega)]
    congr 1
    omega
theorem app_inj {a b c d : ByteArray} (h : a.size = c.size) : a ++ b = c ++ d ↔ a = c ∧ b = d := by
  constructor
  · intro e
    have hl : a.data.toList ++ b.data.toList = c.data.toList ++ d.data.toList := by
      have := congrArg (fun x : ByteArray => x.data.toList) e
      simpa [ByteArray.data_append] using this
    have hz : a.data.toList.length = c.data.toList.length := by
      rw [Array.length_toList, Array.length_toList]; exact h
    obtain ⟨h1, h2⟩ := List.append_inj hl hz
    exact ⟨ByteArray.ext (Array.toList_inj.1 h1), ByteArray.ext (Array.toList_inj.1 h2)⟩
  · rintro ⟨rfl, rfl⟩; rfl

namespace Frame
theorem byt_lowB (v k i : Nat) (h : i < k) : byt (lowB v k) i = v / 256 ^ i % 256 := by
  induction k with
  | zero => omega
  | succ k ih =>
    rw [lowB_succ]
    by_cases hl : i < k
    · rw [byt_left (by rw [lowB_size]; exact hl), ih hl]
    · have hk : i = k := by omega
      subst hk
      have := byt_right (a := lowB v i) (b := ⟨#[UInt8.ofNat (v / 256 ^ i % 256)]⟩) (j := 0) (by show 0 < 1; omega)
      rw [lowB_size, Nat.add_zero] at this
      rw [this]
      show (UInt8.ofNat (v / 256 ^ i % 256)).toNat = _
      simp
theorem highUp_div (s : ByteArray) (f : Nat) : ∀ k i, i < f → highUp s k f / 256 ^ i % 256 = byt s (k + i) := by
  induction f with
  | zero => intro k i h; omega
  | succ f ih =>
    intro k i h
    have hb := Code.byt_lt s k
    match i with
    | 0 => simp only [highUp, Nat.pow_zero, Nat.div_one, Nat.add_zero]; omega
    | i + 1 =>
      have e : highUp s k (f + 1) / 256 ^ (i + 1) = highUp s (k + 1) f / 256 ^ i := by
        rw [Nat.pow_succ, Nat.mul_comm, ← Nat.div_div_eq_div_mul]
        congr 1
        simp only [highUp]
        omega
      rw [e, ih (k + 1) i (by omega)]
      congr 1
      omega
/-- A number written down is what was read. -/
theorem low_high (s : ByteArray) : lowB (highN s) s.size = s := by
  apply ext_byt
  · exact lowB_size _ _
  · intro i hi
    rw [lowB_size] at hi
    rw [byt_lowB _ _ _ hi]
    unfold highN highFrom
    rw [Nat.sub_zero, highUp_div s s.size 0 i hi, Nat.zero_add]
theorem low_inj (k : Nat) : ∀ {a b : Nat}, a < 256 ^ k → b < 256 ^ k → (∀ i, i < k → a / 256 ^ i % 256 = b / 256 ^ i % 256) → a = b := by
  induction k with
  | zero => intro a b ha hb _; simp at ha hb; omega
  | succ k ih =>
    intro a b ha hb h
    have h0 := h 0 (by omega)
    have ht : a / 256 = b / 256 := by
      refine ih (Nat.div_lt_of_lt_mul (by rw [Nat.pow_succ, Nat.mul_comm] at ha; exact ha)) (Nat.div_lt_of_lt_mul (by rw [Nat.pow_succ, Nat.mul_comm] at hb; exact hb)) (fun i hi => ?_)
      have := h (i + 1) (by omega)
      rw [Nat.pow_succ, Nat.mul_comm, ← Nat.div_div_eq_div_mul, ← Nat.div_div_eq_div_mul] at this
      exact this
    simp only [Nat.pow_zero, Nat.div_one] at h0
    omega
theorem high_low {v k : Nat} (h : v < 256 ^ k) : highN (lowB v k) = v := by
  have hz := lowB_size v k
  refine low_inj k ?_ h (fun i hi => ?_)
  · have := highFrom_lt (lowB v k) 0
    rw [hz, Nat.sub_zero] at this
    exact this
  · unfold highN highFrom
    rw [Nat.sub_zero, hz, highUp_div _ _ _ _ hi, Nat.zero_add, byt_lowB _ _ _ hi]
end Frame

namespace Hist
/-- The numbers that stand in a frame. -/
def numOf (f : ByteArray) : Nat := Frame.highN (f.extract 1 3)
def nOf (f : ByteArray) : Nat := Frame.highN (f.extract 3 7)
def clkOf (f : ByteArray) : Nat := Frame.highN (f.extract 28 30)
def sumOf (f : ByteArray) : Nat := Frame.highN (f.extract 36 40)
def sumOk (f : ByteArray) : Bool := decide (Crc.sum (f.extract 0 36).data.toList = sumOf f)
def stOf (f : ByteArray) : StV := ⟨nOf f, byt f 7, f.extract 8 12, f.extract 12 28, clkOf f, (byt f 30 : Int) - 1, (byt f 31 : Int) - 1, decide (byt f 32 % 2 = 1), decide (byt f 32 / 2 % 2 = 1)⟩
def chOf (f : ByteArray) : ChV := ⟨byt f 7, byt f 8, decide (byt f 9 = 1)⟩
theorem chOf_chosen (f : ByteArray) : Mach.Chosen (chOf f) := by
  have q1 := Code.byt_lt f 7
  have q2 := Code.byt_lt f 8
  exact ⟨by simp [chOf], by simp only [chOf]; omega, by simp [chOf], by simp only [chOf]; omega⟩
def nought (f : ByteArray) (a b : Nat) : Bool := (List.range (b - a)).all fun i => decide (byt f (a + i) = 0)
theorem nought_iff (f : ByteArray) (a b : Nat) : nought f a b = true ↔ ∀ j, a ≤ j → j < b → byt f j = 0 := by
  unfold nought
  rw [List.all_eq_true]
  constructor
  · intro h j h1 h2
    have := h (j - a) (by rw [List.mem_range]; omega)
    rw [show a + (j - a) = j by omega] at this
    simpa using this
  · intro h i hi
    rw [List.mem_range] at hi
    simpa using h (a + i) (by omega) (by omega)
theorem nought_ex (f : ByteArray) {a b : Nat} (hb : b ≤ f.size) (hab : a ≤ b) : nought (f.extract a b) 0 (f.extract a b).size = nought f a b := by
  have hz := size_ex f (a := a) hb
  have e : nought (f.extract a b) 0 (f.extract a b).size = true ↔ nought f a b = true := by
    rw [nought_iff, nought_iff, hz]
    constructor
    · intro h j h1 h2
      have := h (j - a) (by omega) (by omega)
      rw [byt_ex f hb (by omega), show a + (j - a) = j by omega] at this
      exact this
    · intro h j _ h2
      rw [byt_ex f hb (by omega)]
      exact h (a + j) (by omega) (by omega)
  cases h1 : nought (f.extract a b) 0 (f.extract a b).size <;> cases h2 : nought f a b
  · rfl
  · exact absurd (e.2 h2) (by rw [h1]; simp)
  · exact absurd (e.1 h1) (by rw [h2]; simp)
  · rfl
def okC (f : ByteArray) : Bool := sumOk f && decide (byt f 0 = 67) && decide (byt f 32 ≤ 3) && nought f 33 36 && Mach.legal (stOf f)
def okE (f : ByteArray) : Bool := sumOk f && decide (byt f 0 = 69) && decide (byt f 9 ≤ 1) && nought f 10 36 && decide (nOf f < 10000)

def noCh : ChV := ⟨0, 0, false⟩
/-- What stands in a frame: a state, or a choice; its number; its N. -/
structure En where
  st : Bool
  k : Nat
  n : Nat
  s : StV
  c : ChV
def enC (f : ByteArray) : En := ⟨true, numOf f, nOf f, stOf f, noCh⟩
def enE (f : ByteArray) : En := ⟨false, numOf f, nOf f, Mach.zero, chOf f⟩
def read (f : ByteArray) : Option En :=
  if okC f = true then some (enC f) else if okE f = true then some (enE f) else none

theorem highN_lt {f : ByteArray} {a b : Nat} (hb : b ≤ f.size) : Frame.highN (f.extract a b) < 256 ^ (b - a) := by
  have := Frame.highFrom_lt (f.extract a b) 0
  rw [size_ex f hb, Nat.sub_zero] at this
  exact this
theorem numOf_lt {f : ByteArray} (h : f.size = 40) : numOf f < 65536 := by
  have := highN_lt (f := f) (a := 1) (b := 3) (by omega)
  unfold numOf
  simpa using this
theorem nOf_lt {f : ByteArray} (h : f.size = 40) : nOf f < 4294967296 := by
  have := highN_lt (f := f) (a := 3) (b := 7) (by omega)
  unfold nOf
  simpa using this
theorem clkOf_lt {f : ByteArray} (h : f.size = 40) : clkOf f < 65536 := by
  have := highN_lt (f := f) (a := 28) (b := 30) (by omega)
  unfold clkOf
  simpa using this
theorem sumOf_lt {f : ByteArray} (h : f.size = 40) : sumOf f < 4294967296 := by
  have := highN_lt (f := f) (a := 36) (b := 40) (by omega)
  unfold sumOf
  simpa using this

theorem sealed_is {b f : ByteArray} (hb : b.size = 36) (hf : f.size = 40) : Frame.sealed b = f ↔ b = f.extract 0 36 ∧ sumOk f = true := by
  have hw : f = f.extract 0 36 ++ f.extract 36 40 := by
    rw [ex_app f (by omega) (by omega) (by omega), ← hf, extract_whole]
  have hz : (f.extract 36 40).size = 4 := by rw [size_ex f (by omega)]
  constructor
  · intro h
    unfold Frame.sealed at h
    rw [hw, app_inj (by rw [hb, size_ex f (by omega)])] at h
    obtain ⟨h1, h2⟩ := h
    refine ⟨h1, ?_⟩
    unfold sumOk sumOf
    rw [← h2, ← h1, Frame.high_low (by have := Crc.sum_lt b.data.toList; simpa using this)]
    simp
  · rintro ⟨h1, h2⟩
    unfold Frame.sealed
    rw [hw, app_inj (by rw [hb, size_ex f (by omega)])]
    refine ⟨h1, ?_⟩
    unfold sumOk at h2
    have h3 := of_decide_eq_true h2
    rw [h1, h3]
    unfold sumOf
    have := Frame.low_high (f.extract 36 40)
    rw [hz] at this
    exact this

theorem one_is {v : Nat} {f : ByteArray} {i : Nat} (hv : v < 256) (hi : i + 1 ≤ f.size) : Frame.lowB v 1 = f.extract i (i + 1) ↔ v = byt f i := by
  constructor
  · intro h
    have h0 : byt (Frame.lowB v 1) 0 = byt (f.extract i (i + 1)) 0 := by rw [h]
    rw [Frame.byt_lowB _ _ _ (by omega), byt_ex f hi (by omega)] at h0
    simp at h0
    omega
  · intro h
    apply ext_byt
    · rw [Frame.lowB_size, size_ex f hi]; omega
    · intro j hj
      rw [Frame.lowB_size] at hj
      have : j = 0 := by omega
      subst this
      rw [Frame.byt_lowB _ _ _ (by omega), byt_ex f hi (by omega)]
      simp
      omega
theorem high_is {f : ByteArray} {i k : Nat} (hi : i + k ≤ f.size) : Frame.lowB (Frame.highN (f.extract i (i + k))) k = f.extract i (i + k) := by
  have := Frame.low_high (f.extract i (i + k))
  rw [size_ex f hi, Nat.add_sub_cancel_left] at this
  exact this
theorem byt_zeroB (k j : Nat) : byt (Frame.zeroB k) j = 0 := by
  unfold Code.byt
  split
  · rename_i h
    show ((List.replicate k (0 : UInt8)).toArray[j]'h).toNat = 0
    simp
  · rfl
theorem zero_is {f : ByteArray} {i k : Nat} (hi : i + k ≤ f.size) : Frame.zeroB k = f.extract i (i + k) ↔ nought f i (i + k) = true := by
  rw [nought_iff]
  constructor
  · intro h j h1 h2
    have h0 : byt (Frame.zeroB k) (j - i) = byt (f.extract i (i + k)) (j - i) := by rw [h]
    rw [byt_zeroB, byt_ex f hi (by omega), show i + (j - i) = j by omega] at h0
    exact h0.symm
  · intro h
    apply ext_byt
    · rw [Frame.zeroB_size, size_ex f hi]; omega
    · intro j hj
      rw [Frame.zeroB_size] at hj
      rw [byt_zeroB, byt_ex f hi (by omega), h (i + j) (by omega) (by omega)]
theorem head_is {f : ByteArray} {v : Nat} (hv : v < 256) (h : f.size = 40) : (⟨#[UInt8.ofNat v]⟩ : ByteArray) = f.extract 0 1 ↔ byt f 0 = v := by
  have e : (⟨#[UInt8.ofNat v]⟩ : ByteArray) = Frame.lowB v 1 := by
    show _ = (⟨[UInt8.ofNat (v / 256 ^ 0 % 256)].toArray⟩ : ByteArray)
    rw [Nat.pow_zero, Nat.div_one, Nat.mod_eq_of_lt hv]
  rw [e, one_is (i := 0) hv (by omega)]
  exact eq_comm
theorem bits_is (x : Nat) : Frame.bitN (decide (x % 2 = 1)) + 2 * Frame.bitN (decide (x / 2 % 2 = 1)) = x % 4 := by
  unfold Frame.bitN
  rcases Nat.mod_two_eq_zero_or_one x with h1 | h1 <;> rcases Nat.mod_two_eq_zero_or_one (x / 2) with h2 | h2 <;> simp [h1, h2] <;> omega
theorem bit_is {x : Nat} : Frame.bitN (decide (x = 1)) = x ↔ x ≤ 1 := by
  unfold Frame.bitN
  by_cases h : x = 1
  · simp [h]
  · simp [h]; omega
theorem legal_lt {f : ByteArray} (h : Mach.legal (stOf f) = true) : byt f 30 ≤ 32 ∧ byt f 31 ≤ 33 ∧ byt f 7 ≤ 32 ∧ nOf f ≤ 10000 := by
  have := (Mach.legal_iff _).1 h
  obtain ⟨a1, a2, a3, a4, a5, a6, a7, a8, a9, a10, a11, a12⟩ := this
  simp only [stOf] at *
  omega

theorem bodyC_is {f : ByteArray} (h : f.size = 40) : Frame.bodyC (numOf f) (stOf f) = f.extract 0 36 ↔ byt f 0 = 67 ∧ byt f 32 ≤ 3 ∧ nought f 33 36 = true := by
  have q1 := Code.byt_lt f 7
  have q2 := Code.byt_lt f 30
  have q3 := Code.byt_lt f 31
  have q4 := Code.byt_lt f 32
  have e36 : f.extract 0 36 = f.extract 0 1 ++ f.extract 1 3 ++ f.extract 3 7 ++ f.extract 7 8 ++ f.extract 8 12 ++ f.extract 12 28 ++ f.extract 28 30 ++ f.extract 30 31 ++ f.extract 31 32 ++ f.extract 32 33 ++ f.extract 33 36 := by
    rw [ex_app f (by omega) (by omega) (by omega), ex_app f (by omega) (by omega) (by omega), ex_app f (by omega) (by omega) (by omega), ex_app f (by omega) (by omega) (by omega), ex_app f (by omega) (by omega) (by omega), ex_app f (by omega) (by omega) (by omega), ex_app f (by omega) (by omega) (by omega), ex_app f (by omega) (by omega) (by omega), ex_app f (by omega) (by omega) (by omega), ex_app f (by omega) (by omega) (by omega)]
  have s1 : Frame.lowB (numOf f % 65536) 2 = f.extract 1 3 := by
    rw [Nat.mod_eq_of_lt (numOf_lt h)]
    exact high_is (i := 1) (k := 2) (by omega)
  have s2 : Frame.lowB (stOf f).n.toNat 4 = f.extract 3 7 := by
    show Frame.lowB ((nOf f : Int)).toNat 4 = _
    rw [Int.toNat_natCast]
    exact high_is (i := 3) (k := 4) (by omega)
  have s3 : Frame.lowB (stOf f).pc.toNat 1 = f.extract 7 8 := by
    show Frame.lowB ((byt f 7 : Int)).toNat 1 = _
    rw [Int.toNat_natCast]
    exact (one_is q1 (by omega)).2 rfl
  have s4 : Frame.lowB (stOf f).clock.toNat 2 = f.extract 28 30 := by
    show Frame.lowB ((clkOf f : Int)).toNat 2 = _
    rw [Int.toNat_natCast]
    exact high_is (i := 28) (k := 2) (by omega)
  have s5 : Frame.lowB ((stOf f).handler + 1).toNat 1 = f.extract 30 31 := by
    show Frame.lowB (((byt f 30 : Int) - 1 + 1)).toNat 1 = _
    rw [show ((byt f 30 : Int) - 1 + 1).toNat = byt f 30 by omega]
    exact (one_is q2 (by omega)).2 rfl
  have s6 : Frame.lowB ((stOf f).back + 1).toNat 1 = f.extract 31 32 := by
    show Frame.lowB (((byt f 31 : Int) - 1 + 1)).toNat 1 = _
    rw [show ((byt f 31 : Int) - 1 + 1).toNat = byt f 31 by omega]
    exact (one_is q3 (by omega)).2 rfl
  have s7 : Frame.lowB (Frame.bitN (stOf f).pending + 2 * Frame.bitN (stOf f).halted) 1 = f.extract 32 33 ↔ byt f 32 ≤ 3 := by
    show Frame.lowB (Frame.bitN (decide (byt f 32 % 2 = 1)) + 2 * Frame.bitN (decide (byt f 32 / 2 % 2 = 1))) 1 = _ ↔ _
    rw [bits_is, one_is (by omega) (by omega)]
    omega
  have s8 : Frame.zeroB 3 = f.extract 33 36 ↔ nought f 33 36 = true := zero_is (i := 33) (k := 3) (by omega)
  have s9 : (⟨#[67]⟩ : ByteArray) = f.extract 0 1 ↔ byt f 0 = 67 := head_is (v := 67) (by omega) h
  have hr : (stOf f).regs = f.extract 8 12 := rfl
  have hc : (stOf f).cells = f.extract 12 28 := rfl
  unfold Frame.bodyC
  rw [e36, s1, s2, s3, s4, s5, s6, hr, hc]
  have z0 : (⟨#[67]⟩ : ByteArray).size = 1 := rfl
  have zz : ∀ a b, b ≤ 40 → (f.extract a b).size = b - a := fun a b hb => size_ex f (by omega)
  rw [app_inj (by simp only [ByteArray.size_append, Frame.lowB_size, z0, zz _ _ (show 1 ≤ 40 by omega), zz 1 3 (by omega), zz 3 7 (by omega), zz 7 8 (by omega), zz 8 12 (by omega), zz 12 28 (by omega), zz 28 30 (by omega), zz 30 31 (by omega), zz 31 32 (by omega), zz 32 33 (by omega)]),
    app_inj (by simp only [ByteArray.size_append, z0, zz _ _ (show 1 ≤ 40 by omega), zz 1 3 (by omega), zz 3 7 (by omega), zz 7 8 (by omega), zz 8 12 (by omega), zz 12 28 (by omega), zz 28 30 (by omega), zz 30 31 (by omega), zz 31 32 (by omega)]), s7, s8]
  constructor
  · rintro ⟨⟨h1, h2⟩, h3⟩
    refine ⟨?_, h2, h3⟩
    rw [← s9]
    have t1 := (app_inj (by simp only [ByteArray.size_append, z0, zz _ _ (show 1 ≤ 40 by omega)])).1 h1
    have t2 := (app_inj (by simp only [ByteArray.size_append, z0, zz _ _ (show 1 ≤ 40 by omega)])).1 t1.1
    have t3 := (app_inj (by simp only [ByteArray.size_append, z0, zz _ _ (show 1 ≤ 40 by omega)])).1 t2.1
    have t4 := (app_inj (by simp only [ByteArray.size_append, z0, zz _ _ (show 1 ≤ 40 by omega)])).1 t3.1
    have t5 := (app_inj (by simp only [ByteArray.size_append, z0, zz _ _ (show 1 ≤ 40 by omega)])).1 t4.1
    have t6 := (app_inj (by simp only [ByteArray.size_append, z0, zz _ _ (show 1 ≤ 40 by omega)])).1 t5.1
    have t7 := (app_inj (by simp only [ByteArray.size_append, z0, zz _ _ (show 1 ≤ 40 by omega)])).1 t6.1
    have t8 := (app_inj (by simp only [z0, zz _ _ (show 1 ≤ 40 by omega)])).1 t7.1
    exact t8.1
  · rintro ⟨h1, h2, h3⟩
    refine ⟨⟨?_, h2⟩, h3⟩
    rw [← s9] at h1
    rw [h1]

theorem bodyE_is {f : ByteArray} (h : f.size = 40) : Frame.bodyE (numOf f) (nOf f) (chOf f) = f.extract 0 36 ↔ byt f 0 = 69 ∧ byt f 9 ≤ 1 ∧ nought f 10 36 = true := by
  have q1 := Code.byt_lt f 7
  have q2 := Code.byt_lt f 8
  have q3 := Code.byt_lt f 9
  have e36 : f.extract 0 36 = f.extract 0 1 ++ f.extract 1 3 ++ f.extract 3 7 ++ f.extract 7 8 ++ f.extract 8 9 ++ f.extract 9 10 ++ f.extract 10 36 := by
    rw [ex_app f (by omega) (by omega) (by omega), ex_app f (by omega) (by omega) (by omega), ex_app f (by omega) (by omega) (by omega), ex_app f (by omega) (by omega) (by omega), ex_app f (by omega) (by omega) (by omega), ex_app f (by omega) (by omega) (by omega)]
  have s1 : Frame.lowB (numOf f % 65536) 2 = f.extract 1 3 := by
    rw [Nat.mod_eq_of_lt (numOf_lt h)]
    exact high_is (i := 1) (k := 2) (by omega)
  have s2 : Frame.lowB (nOf f) 4 = f.extract 3 7 := high_is (i := 3) (k := 4) (by omega)
  have s3 : Frame.lowB (chOf f).input.toNat 1 = f.extract 7 8 := by
    show Frame.lowB ((byt f 7 : Int)).toNat 1 = _
    rw [Int.toNat_natCast]
    exact (one_is q1 (by omega)).2 rfl
  have s4 : Frame.lowB (chOf f).ticks.toNat 1 = f.extract 8 9 := by
    show Frame.lowB ((byt f 8 : Int)).toNat 1 = _
    rw [Int.toNat_natCast]
    exact (one_is q2 (by omega)).2 rfl
  have s7 : Frame.lowB (Frame.bitN (chOf f).interrupt) 1 = f.extract 9 10 ↔ byt f 9 ≤ 1 := by
    show Frame.lowB (Frame.bitN (decide (byt f 9 = 1))) 1 = _ ↔ _
    rw [one_is (by unfold Frame.bitN; split <;> omega) (by omega)]
    exact bit_is
  have s8 : Frame.zeroB 26 = f.extract 10 36 ↔ nought f 10 36 = true := zero_is (i := 10) (k := 26) (by omega)
  have s9 : (⟨#[69]⟩ : ByteArray) = f.extract 0 1 ↔ byt f 0 = 69 := head_is (v := 69) (by omega) h
  unfold Frame.bodyE
  rw [e36, s1, s2, s3, s4]
  have z0 : (⟨#[69]⟩ : ByteArray).size = 1 := rfl
  have zz : ∀ a b, b ≤ 40 → (f.extract a b).size = b - a := fun a b hb => size_ex f (by omega)
  rw [app_inj (by simp only [ByteArray.size_append, Frame.lowB_size, z0, zz _ _ (show 1 ≤ 40 by omega), zz 9 10 (by omega)]),
    app_inj (by simp only [ByteArray.size_append, z0, zz _ _ (show 1 ≤ 40 by omega)]), s7, s8]
  constructor
  · rintro ⟨⟨h1, h2⟩, h3⟩
    refine ⟨?_, h2, h3⟩
    rw [← s9]
    have t5 := (app_inj (by simp only [ByteArray.size_append, z0, zz _ _ (show 1 ≤ 40 by omega)])).1 h1
    have t6 := (app_inj (by simp only [ByteArray.size_append, z0, zz _ _ (show 1 ≤ 40 by omega)])).1 t5.1
    have t7 := (app_inj (by simp only [ByteArray.size_append, z0, zz _ _ (show 1 ≤ 40 by omega)])).1 t6.1
    have t8 := (app_inj (by simp only [z0, zz _ _ (show 1 ≤ 40 by omega)])).1 t7.1
    exact t8.1
  · rintro ⟨h1, h2, h3⟩
    refine ⟨⟨?_, h2⟩, h3⟩
    rw [← s9] at h1
    rw [h1]

theorem bodyC_size {k : Nat} {s : StV} (h : Mach.Legal s) : (Frame.bodyC k s).size = 36 := by
  have := Frame.ofState_size (k := k) h
  unfold Frame.ofState at this
  rw [Frame.sealed_size] at this
  omega
theorem bodyE_size (k n : Nat) (c : ChV) : (Frame.bodyE k n c).size = 36 := by
  have := Frame.ofChoice_size k n c
  unfold Frame.ofChoice at this
  rw [Frame.sealed_size] at this
  omega
/-- The document's test of a state's frame. -/
theorem ofState_is {f : ByteArray} (h : f.size = 40) (hl : Mach.legal (stOf f) = true) : Frame.ofState (numOf f) (stOf f) = f ↔ okC f = true := by
  unfold Frame.ofState
  rw [sealed_is (bodyC_size ((Mach.legal_iff _).1 hl)) h, bodyC_is h]
  simp only [okC, Bool.and_eq_true, decide_eq_true_eq, hl, and_true]
  constructor
  · rintro ⟨⟨a, b, c⟩, d⟩; exact ⟨⟨⟨d, a⟩, b⟩, c⟩
  · rintro ⟨⟨⟨d, a⟩, b⟩, c⟩; exact ⟨⟨a, b, c⟩, d⟩
/-- The document's test of a choice's frame. -/
theorem ofChoice_is {f : ByteArray} (h : f.size = 40) : (Frame.ofChoice (numOf f) (nOf f) (chOf f) = f ∧ nOf f < 10000) ↔ okE f = true := by
  unfold Frame.ofChoice
  rw [sealed_is (bodyE_size _ _ _) h, bodyE_is h]
  simp only [okE, Bool.and_eq_true, decide_eq_true_eq]
  constructor
  · rintro ⟨⟨⟨a, b, c⟩, d⟩, e⟩; exact ⟨⟨⟨⟨d, a⟩, b⟩, c⟩, e⟩
  · rintro ⟨⟨⟨⟨d, a⟩, b⟩, c⟩, e⟩; exact ⟨⟨⟨a, b, c⟩, d⟩, e⟩
theorem ofState_not {f : ByteArray} (h : f.size = 40) : (Mach.legal (stOf f) && decide (Frame.ofState (numOf f) (stOf f) = f)) = okC f := by
  cases hl : Mach.legal (stOf f) with
  | false => simp [okC, hl]
  | true =>
    have := ofState_is h hl
    cases ho : okC f with
    | true => simp [this.2 ho]
    | false =>
      have hn : ¬ Frame.ofState (numOf f) (stOf f) = f := fun e => by have := this.1 e; rw [ho] at this; cases this
      simp [hn]
theorem okE_not {f : ByteArray} (h : f.size = 40) : (decide (Frame.ofChoice (numOf f) (nOf f) (chOf f) = f) && decide (nOf f < 10000)) = okE f := by
  have := ofChoice_is h
  cases ho : okE f with
  | true => obtain ⟨a, b⟩ := this.2 ho; simp [a, b]
  | false =>
    cases hx : (decide (Frame.ofChoice (numOf f) (nOf f) (chOf f) = f) && decide (nOf f < 10000)) with
    | false => rfl
    | true =>
      simp at hx
      have := this.1 hx
      rw [ho] at this
      cases this
theorem read_C {f : ByteArray} (h : byt f 0 = 67) : read f = if okC f = true then some (enC f) else none := by
  unfold read
  have : okE f = false := by simp [okE, h]
  simp [this]
theorem read_E {f : ByteArray} (h : ¬ byt f 0 = 67) : read f = if okE f = true then some (enE f) else none := by
  unfold read
  have : okC f = false := by simp [okC, h]
  simp [this]
end Hist
end Go.Proofs.Ytcmoffiigpchiaa
