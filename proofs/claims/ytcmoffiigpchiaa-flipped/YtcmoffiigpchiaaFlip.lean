import Derived.Test.YtcmoffiigpchiaaTale
import Derived.Test.YtcmoffiigpchiaaBurst
namespace Go.Proofs.Ytcmoffiigpchiaa
open _root_.Go.Proofs.Ytcmoffiigpchiaa.Code (byt)
namespace Hist
open Crc (numL)

theorem numL_lt (l : List UInt8) : numL l < 2 ^ (8 * l.length) := by
  induction l with
  | nil => show 0 < 2 ^ 0; decide
  | cons b r ih =>
    show b.toNat + 256 * numL r < 2 ^ (8 * (r.length + 1))
    have hb := b.toNat_lt
    rw [show 8 * (r.length + 1) = 8 + 8 * r.length by omega, Nat.pow_add]
    omega
theorem xor_parts {b c N M : Nat} (hb : b < 256) (hc : c < 256) : (b + 256 * N) ^^^ (c + 256 * M) = (b ^^^ c) + 256 * (N ^^^ M) := by
  have hx : b ^^^ c < 2 ^ 8 := Nat.xor_lt_two_pow hb hc
  apply Nat.eq_of_testBit_eq
  intro i
  rw [Nat.testBit_xor, show b + 256 * N = 2 ^ 8 * N + b by omega, show c + 256 * M = 2 ^ 8 * M + c by omega, show (b ^^^ c) + 256 * (N ^^^ M) = 2 ^ 8 * (N ^^^ M) + (b ^^^ c) by omega, Nat.testBit_two_pow_mul_add _ hb, Nat.testBit_two_pow_mul_add _ hc, Nat.testBit_two_pow_mul_add _ hx]
  split <;> rw [Nat.testBit_xor]
theorem xor_top {a n : Nat} (h : a < 2 ^ n) : a ^^^ 2 ^ n = a + 2 ^ n := by
  apply Nat.eq_of_testBit_eq
  intro j
  rw [Nat.testBit_xor, Nat.testBit_two_pow, show a + 2 ^ n = 2 ^ n * 2 ^ 0 + a by omega, Nat.testBit_two_pow_mul_add _ h, Nat.testBit_two_pow]
  by_cases hj : j < n
  · rw [if_pos hj, decide_eq_false (by omega)]
    simp
  · rw [if_neg hj, Nat.testBit_lt_two_pow (Nat.lt_of_lt_of_le h (Nat.pow_le_pow_right (by omega) (by omega)))]
    rw [Bool.false_xor, decide_eq_decide]
    omega
/-- A bit of a byte turned. -/
def turnB (b : UInt8) (k : Nat) : UInt8 := UInt8.ofNat (b.toNat ^^^ 2 ^ k)
theorem turnB_toNat (b : UInt8) {k : Nat} (hk : k < 8) : (turnB b k).toNat = b.toNat ^^^ 2 ^ k := by
  have h : b.toNat ^^^ 2 ^ k < 2 ^ 8 := Nat.xor_lt_two_pow b.toNat_lt ((Nat.pow_lt_pow_iff_right (by omega)).2 hk)
  unfold turnB
  rw [UInt8.toNat_ofNat']
  exact Nat.mod_eq_of_lt h
theorem numL_turn (l : List UInt8) : ∀ (j k : Nat) (b : UInt8), l[j]? = some b → k < 8 → numL (l.set j (turnB b k)) = numL l ^^^ 2 ^ (8 * j + k) := by
  induction l with
  | nil => intro j k b h; simp at h
  | cons c r ih =>
    intro j k b h hk
    have hp : 2 ^ k < 2 ^ 8 := (Nat.pow_lt_pow_iff_right (by omega)).2 hk
    cases j with
    | zero =>
      simp at h
      subst h
      show (turnB c k).toNat + 256 * numL r = (c.toNat + 256 * numL r) ^^^ 2 ^ (0 + k)
      rw [turnB_toNat c hk, Nat.zero_add]
      have := xor_parts (N := numL r) (M := 0) c.toNat_lt hp
      rw [Nat.mul_zero, Nat.add_zero, Nat.xor_zero] at this
      exact this.symm
    | succ j =>
      show c.toNat + 256 * numL (r.set j (turnB b k)) = (c.toNat + 256 * numL r) ^^^ 2 ^ (8 * (j + 1) + k)
      rw [ih j k b (by simpa using h) hk]
      have := xor_parts (N := numL r) (M := 2 ^ (8 * j + k)) c.toNat_lt (show 0 < 256 by omega)
      rw [Nat.xor_zero, Nat.zero_add] at this
      rw [show 2 ^ (8 * (j + 1) + k) = 256 * 2 ^ (8 * j + k) by rw [show 8 * (j + 1) + k = 8 + (8 * j + k) by omega, Nat.pow_add]]
      exact this.symm
theorem sealed_of_read {f : ByteArray} {e : En} (hz : f.size = 40) (h : read f = some e) : ∃ b : ByteArray, b.size = 36 ∧ f = Frame.sealed b := by
  have hs : sumOk f = true := by
    unfold read at h
    split at h
    · rename_i ho
      simp only [okC, Bool.and_eq_true] at ho
      exact ho.1.1.1.1
    · split at h
      · rename_i ho
        simp only [okE, Bool.and_eq_true] at ho
        exact ho.1.1.1.1
      · cases h
  have hb : (f.extract 0 36).size = 36 := by rw [size_ex f (by omega)]
  exact ⟨f.extract 0 36, hb, ((sealed_is hb hz).2 ⟨rfl, hs⟩).symm⟩
theorem len_data (f : ByteArray) : f.data.toList.length = f.size := by rw [Array.length_toList]; rfl
/-- A frame of which bits are turned within 32 can't be read. -/
theorem flipped_none {f f' b : ByteArray} (hb : b.size = 36) (hs : f = Frame.sealed b) (hz : f'.size = 40) {m k : Nat} (h0 : m ≠ 0) (h32 : m < 2 ^ 32) (hx : numL f.data.toList ^^^ numL f'.data.toList = m * 2 ^ k) : read f' = none := by
  have hf : f.size = 40 := by rw [hs, Frame.sealed_size]; omega
  have hno : sumOk f' = false := by
    cases ho : sumOk f' with
    | false => rfl
    | true =>
      exfalso
      have hb' : (f'.extract 0 36).size = 36 := by rw [size_ex f' (by omega)]
      have e' := (sealed_is hb' hz).2 ⟨rfl, ho⟩
      have r1 := Crc.sealed_rest b
      rw [← hs] at r1
      have r2 := Crc.sealed_rest (f'.extract 0 36)
      rw [e'] at r2
      have l1 := len_data f
      have l2 := len_data f'
      refine Crc.burst_bytes (l := f.data.toList) (l' := f'.data.toList) (by omega) h0 h32 hx ?_ (v := 4294967295) (by rw [r1, r2])
      rw [← hx]
      refine Nat.xor_lt_two_pow (numL_lt _) ?_
      have := numL_lt f'.data.toList
      rw [l2, hz] at this
      rw [l1, hf]
      exact this
  unfold read
  rw [if_neg (by simp [okC, hno]), if_neg (by simp [okE, hno])]

/-- Bits of a row of bytes turned, those of a number, from a bit on. -/
def turnL (T : List UInt8) (base from_ m : Nat) : Nat → List UInt8
  | 0 => T
  | i + 1 =>
    if m / 2 ^ i % 2 = 1 then (turnL T base from_ m i).set (base + (from_ + i) / 8) (turnB ((turnL T base from_ m i).getD (base + (from_ + i) / 8) 0) ((from_ + i) % 8))
    else turnL T base from_ m i
theorem turnL_length (T : List UInt8) (base from_ m : Nat) : ∀ i, (turnL T base from_ m i).length = T.length := by
  intro i
  induction i with
  | zero => rfl
  | succ i ih =>
    unfold turnL
    split
    · rw [List.length_set, ih]
    · exact ih
/-- All else is as it was. -/
theorem turnL_off (T : List UInt8) (base from_ m : Nat) : ∀ i, from_ + i ≤ 320 → ∀ j, (j < base ∨ base + 40 ≤ j) → (turnL T base from_ m i)[j]? = T[j]? := by
  intro i
  induction i with
  | zero => intro _ j _; rfl
  | succ i ih =>
    intro h j hj
    unfold turnL
    split
    · rw [List.getElem?_set_ne (by omega)]
      exact ih (by omega) j hj
    · exact ih (by omega) j hj
/-- The frame as a number. -/
theorem turnL_num (T : List UInt8) (base from_ m : Nat) (hT : base + 40 ≤ T.length) : ∀ i, from_ + i ≤ 320 → numL (((turnL T base from_ m i).drop base).take 40) = numL ((T.drop base).take 40) ^^^ (m % 2 ^ i * 2 ^ from_) := by
  intro i
  induction i with
  | zero => intro _; simp [turnL, Nat.mod_one]
  | succ i ih =>
    intro h
    have ih' := ih (by omega)
    have hm : m % 2 ^ (i + 1) = m % 2 ^ i + 2 ^ i * (m / 2 ^ i % 2) := by rw [Nat.pow_succ, Nat.mod_mul]
    unfold turnL
    split
    · rename_i hc
      rw [hm, hc, Nat.mul_one]
      have hl := turnL_length T base from_ m i
      generalize turnL T base from_ m i = L at *
      have hj : (from_ + i) / 8 < 40 := by omega
      have hg : ((L.drop base).take 40)[(from_ + i) / 8]? = some (L.getD (base + (from_ + i) / 8) 0) := by
        rw [List.getElem?_take_of_lt hj, List.getElem?_drop, List.getD_eq_getElem?_getD, List.getElem?_eq_getElem (by omega)]
        rfl
      have e : ((L.set (base + (from_ + i) / 8) (turnB (L.getD (base + (from_ + i) / 8) 0) ((from_ + i) % 8))).drop base).take 40 = ((L.drop base).take 40).set ((from_ + i) / 8) (turnB (L.getD (base + (from_ + i) / 8) 0) ((from_ + i) % 8)) := by
        apply List.ext_getElem?
        intro x
        by_cases hx : x < 40
        · rw [List.getElem?_take_of_lt hx, List.getElem?_drop, List.getElem?_set, List.getElem?_set, List.getElem?_take_of_lt hx, List.getElem?_drop]
          by_cases hxe : (from_ + i) / 8 = x
          · rw [if_pos hxe, if_pos (by omega), if_pos (by omega), if_pos (by rw [List.length_take, List.length_drop]; omega)]
          · rw [if_neg hxe, if_neg (by omega)]
        · rw [List.getElem?_eq_none (by rw [List.length_take]; omega), List.getElem?_eq_none (by rw [List.length_set, List.length_take]; omega)]
      rw [e, numL_turn _ _ _ _ hg (by omega), ih', show 8 * ((from_ + i) / 8) + (from_ + i) % 8 = from_ + i by omega, Nat.xor_assoc]
      congr 1
      have hlt : m % 2 ^ i < 2 ^ i := Nat.mod_lt _ (Nat.pow_pos (by omega))
      rw [Nat.add_mul, ← Nat.pow_add, Nat.add_comm from_ i]
      refine xor_top ?_
      rw [Nat.pow_add]
      exact Nat.mul_lt_mul_of_pos_right hlt (Nat.pow_pos (by omega))
    · rename_i hc
      have hc0 : m / 2 ^ i % 2 = 0 := by omega
      rw [hm, hc0, Nat.mul_zero, Nat.add_zero]
      exact ih'
theorem ex_list (f : ByteArray) (a b : Nat) : (f.extract a b).data.toList = (f.data.toList.drop a).take (b - a) := by
  rw [ByteArray.data_extract, Array.toList_extract, List.extract_eq_take_drop]
theorem of_list {a b : ByteArray} (h : a.data.toList = b.data.toList) : a = b := ByteArray.ext (Array.toList_inj.1 h)
/-- A trace with bits of one frame turned. -/
theorem trace_turn {m : RM} {l : List StV} {G : List En} {p : ByteArray} (hi : m.Inv) (h : Tale p m.all m.s l G) {j from_ mm i : Nat} (hj : j < m.all.length - m.from_) (hfi : from_ + i ≤ 320) (hi32 : i ≤ 32) {t : ByteArray} (ht : t.data.toList = turnL (RM.traceOf m).data.toList (40 * j) from_ mm i) :
    t.size = (RM.traceOf m).size ∧ (∀ a, a < j → t.extract (40 * a) (40 * a + 40) = (RM.traceOf m).extract (40 * a) (40 * a + 40)) ∧ (mm % 2 ^ i ≠ 0 → read (t.extract (40 * j) (40 * j + 40)) = none) ∧ (mm % 2 ^ i = 0 → t = RM.traceOf m) := by
  obtain ⟨z1, z2, z3⟩ := trace_size hi
  have hlt := turnL_length (RM.traceOf m).data.toList (40 * j) from_ mm i
  have hz : t.size = (RM.traceOf m).size := by
    have := len_data t
    rw [ht, hlt, len_data] at this
    exact this.symm
  have hTl : (RM.traceOf m).data.toList.length = (RM.traceOf m).size := len_data _
  refine ⟨hz, fun a ha => ?_, fun hm => ?_, fun hm => ?_⟩
  · apply of_list
    rw [ex_list, ex_list, ht]
    apply List.ext_getElem?
    intro x
    by_cases hx : x < 40 * a + 40 - 40 * a
    · rw [List.getElem?_take_of_lt hx, List.getElem?_take_of_lt hx, List.getElem?_drop, List.getElem?_drop]
      exact turnL_off _ _ _ _ i hfi _ (by omega)
    · rw [List.getElem?_eq_none (by rw [List.length_take]; omega), List.getElem?_eq_none (by rw [List.length_take]; omega)]
  · obtain ⟨f, hf⟩ : ∃ f, m.all[m.from_ + j]? = some f := ⟨_, List.getElem?_eq_getElem (by omega)⟩
    have hta := trace_at hi hf
    have hlen := h.len
    obtain ⟨e, he⟩ : ∃ e, G[m.from_ + j]? = some e := ⟨_, List.getElem?_eq_getElem (by omega)⟩
    obtain ⟨b, hb, hs⟩ := sealed_of_read (hi.ok.frames f (List.mem_of_getElem? hf)) (h.rd _ f e hf he)
    have hnum := turnL_num (RM.traceOf m).data.toList (40 * j) from_ mm (by omega) i hfi
    rw [← ht] at hnum
    have e1 : (t.extract (40 * j) (40 * j + 40)).data.toList = (t.data.toList.drop (40 * j)).take 40 := by rw [ex_list, show 40 * j + 40 - 40 * j = 40 by omega]
    have e2 : f.data.toList = ((RM.traceOf m).data.toList.drop (40 * j)).take 40 := by rw [← hta, ex_list, show 40 * j + 40 - 40 * j = 40 by omega]
    have hlt2 : mm % 2 ^ i < 2 ^ 32 := Nat.lt_of_lt_of_le (Nat.mod_lt _ (Nat.pow_pos (by omega))) (Nat.pow_le_pow_right (by omega) hi32)
    refine flipped_none hb hs (by rw [size_ex t (by omega)]; omega) hm hlt2 (k := from_) ?_
    rw [e1, hnum, e2, ← Nat.xor_assoc, Nat.xor_self, Nat.zero_xor]
  · apply of_list
    rw [ht]
    clear ht hlt hz
    have key : ∀ k, k ≤ i → turnL (RM.traceOf m).data.toList (40 * j) from_ mm k = (RM.traceOf m).data.toList := by
      intro k
      induction k with
      | zero => intro _; rfl
      | succ k ih =>
        intro hk
        have hb : mm / 2 ^ k % 2 = 0 := by
          have h1 : mm % 2 ^ (k + 1) = 0 := by
            have : 2 ^ (k + 1) ∣ 2 ^ i := Nat.pow_dvd_pow 2 hk
            exact Nat.mod_eq_zero_of_dvd (Nat.dvd_trans this (Nat.dvd_of_mod_eq_zero hm))
          rw [Nat.pow_succ, Nat.mod_mul] at h1
          have hp : 0 < 2 ^ k := Nat.pow_pos (by omega)
          rcases Nat.mod_two_eq_zero_or_one (mm / 2 ^ k) with h2 | h2
          · exact h2
          · rw [h2] at h1; omega
        unfold turnL
        rw [if_neg (by omega)]
        exact ih (by omega)
    exact key i (Nat.le_refl _)
/-- All that is asked of such a text. -/
theorem flip_end {m : RM} {l : List StV} {G : List En} {p : ByteArray} (hg : (Code.chk p).1 = 0) (hi : m.Inv) (h : Tale p m.all m.s l G) {j from_ mm i : Nat} (hj : j < m.all.length - m.from_) (hfi : from_ + i ≤ 320) (hi32 : i ≤ 32) {t : ByteArray} (ht : t.data.toList = turnL (RM.traceOf m).data.toList (40 * j) from_ mm i) :
    t.size = (RM.traceOf m).size ∧ (mm % 2 ^ i = 0 → Shows p t l (G.drop m.from_)) ∧ (mm % 2 ^ i ≠ 0 → (j = 0 → Hist.run t = []) ∧ (1 ≤ j → Shows p t l ((G.drop m.from_).take j) ∧ Hist.run (t.extract 0 (40 * j)) = (G.drop m.from_).take j)) := by
  obtain ⟨hz, hs, hn, he⟩ := trace_turn hi h hj hfi hi32 ht
  obtain ⟨z1, z2, z3⟩ := trace_size hi
  refine ⟨hz, fun h0 => ?_, fun h0 => ⟨fun hj0 => ?_, fun hj1 => ?_⟩⟩
  · rw [he h0]
    exact trace_whole hg hi h
  · subst hj0
    exact run_none (.inr (hn h0))
  · obtain ⟨hP, hl⟩ := kept_part hi h j hj1 (by omega)
    refine ⟨shows_of hg h hP (trace_run hi h hj1 (by omega) (by omega) hs (.inr (hn h0))), ?_⟩
    have hsz : (t.extract 0 (40 * j)).size = 40 * j := by rw [size_ex t (by omega)]; omega
    refine trace_run hi h hj1 (by omega) (by omega) (fun a ha => ?_) (.inl (by omega))
    rw [ex_ex t (by omega) (by omega), ← hs a ha]
    congr 1 <;> omega
theorem turned_bit (mm q : Nat) (tu : Nat) (h : tu = 0 ↔ mm % 2 ^ q = 0) : ((mm / 2 ^ q % 2 = 1 → (tu + 1 = 0 ↔ mm % 2 ^ (q + 1) = 0)) ∧ (mm / 2 ^ q % 2 = 0 → (tu = 0 ↔ mm % 2 ^ (q + 1) = 0))) ∧ mm / 2 ^ q / 2 = mm / 2 ^ (q + 1) := by
  have hm : mm % 2 ^ (q + 1) = mm % 2 ^ q + 2 ^ q * (mm / 2 ^ q % 2) := by rw [Nat.pow_succ, Nat.mod_mul]
  have hp : 0 < 2 ^ q := Nat.pow_pos (by omega)
  refine ⟨⟨fun hb => ?_, fun hb => ?_⟩, ?_⟩
  · rw [hm, hb, Nat.mul_one]
    omega
  · rw [hm, hb, Nat.mul_zero, Nat.add_zero]
    exact h
  · rw [Nat.div_div_eq_div_mul, ← Nat.pow_succ]
end Hist
end Go.Proofs.Ytcmoffiigpchiaa
