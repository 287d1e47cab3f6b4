import Derived.Laws.Entries
namespace Go.Proofs.Ytbjplijhoibclaa
namespace Code

def byt (s : ByteArray) (i : Nat) : Nat := if h : i < s.size then s[i].toNat else 0
theorem byt_eq (s : ByteArray) (i : Nat) (h : i < s.size) : s[i].toNat = byt s i := by simp [byt, h]
theorem byt_lt (s : ByteArray) (i : Nat) : byt s i < 256 := by
  unfold byt
  split
  · exact UInt8.toNat_lt _
  · omega

/-- What must stand behind a sign: 114 a register, 100 a digit, 112 a place, 46 a point; 0: it is no sign. -/
def cls2 (op : Nat) : Nat :=
  if op = 61 ∨ op = 43 ∨ op = 45 ∨ op = 60 ∨ op = 62 ∨ op = 40 ∨ op = 41 ∨ op = 63 ∨ op = 35 ∨ op = 122 then 114
  else if op = 106 ∨ op = 105 ∨ op = 109 ∨ op = 101 ∨ op = 104 then 46 else 0
def cls3 (op : Nat) : Nat :=
  if op = 61 ∨ op = 60 ∨ op = 62 then 100
  else if op = 43 ∨ op = 45 ∨ op = 40 ∨ op = 41 then 114
  else if op = 106 ∨ op = 122 ∨ op = 105 then 112
  else if op = 63 ∨ op = 35 ∨ op = 109 ∨ op = 101 ∨ op = 104 then 46 else 0
def stand (c b : Nat) : Bool :=
  if c = 114 then decide (97 ≤ b ∧ b ≤ 100)
  else if c = 100 then decide ((48 ≤ b ∧ b ≤ 57) ∨ (97 ≤ b ∧ b ≤ 102))
  else if c = 112 then decide ((48 ≤ b ∧ b ≤ 57) ∨ (97 ≤ b ∧ b ≤ 118))
  else decide (b = 46)
def okB (op pl b : Nat) : Bool :=
  if pl = 0 then decide (cls2 b ≠ 0) else if pl = 1 then stand (cls2 op) b else stand (cls3 op) b
def okAt (s : ByteArray) (i : Nat) : Bool := okB (byt s (i / 3 * 3)) (i % 3) (byt s i)

def firstBad (s : ByteArray) : Option Nat := (List.range s.size).find? fun i => !okAt s i
def chk (s : ByteArray) : Int × Int :=
  if 96 < s.size then (1, 0) else match firstBad s with
    | some i => (2, (i : Int))
    | none => if s.size % 3 = 0 then (0, 0) else (2, (s.size : Int))

theorem bad_here {s : ByteArray} {i : Nat} (hi : i < s.size) (hb : ∀ j, j < i → okAt s j = true) (h : okAt s i = false) : firstBad s = some i := by
  unfold firstBad
  rw [List.find?_range_eq_some]
  exact ⟨by simpa using h, by simpa using hi, fun j hj => by simp [hb j hj]⟩
theorem bad_none {s : ByteArray} (hb : ∀ j, j < s.size → okAt s j = true) : firstBad s = none := by
  unfold firstBad
  rw [List.find?_range_eq_none]
  exact fun j hj => by simp [hb j hj]
theorem chk_long {s : ByteArray} (h : 96 < s.size) : chk s = (1, 0) := by simp [chk, h]
theorem chk_bad {s : ByteArray} {i : Nat} (h : ¬ 96 < s.size) (hi : i < s.size) (hb : ∀ j, j < i → okAt s j = true) (h' : okAt s i = false) : chk s = (2, (i : Int)) := by
  simp [chk, h, bad_here hi hb h']
theorem chk_short {s : ByteArray} (h : ¬ 96 < s.size) (hb : ∀ j, j < s.size → okAt s j = true) (h' : ¬ s.size % 3 = 0) : chk s = (2, (s.size : Int)) := by
  simp [chk, h, bad_none hb, h']
theorem chk_ok {s : ByteArray} (h : ¬ 96 < s.size) (hb : ∀ j, j < s.size → okAt s j = true) (h' : s.size % 3 = 0) : chk s = (0, 0) := by
  simp [chk, h, bad_none hb, h']

/-! The code's own kinds: 0 none, 1 a sign, 2 a register, 3 a digit, 4 a place, 5 a point. -/
def sec (op : Nat) : Int := if cls2 op = 114 then 2 else if cls2 op = 46 then 5 else 0
def thr (op : Nat) : Int := if cls3 op = 100 then 3 else if cls3 op = 114 then 2 else if cls3 op = 112 then 4 else if cls3 op = 46 then 5 else 0
def kind (op pl : Nat) : Int := if pl = 0 then 1 else if pl = 1 then sec op else thr op
def digit (b last : Nat) : Int := if 48 ≤ b ∧ b ≤ 57 then (b : Int) - 48 else if 97 ≤ b ∧ b ≤ last then (b : Int) - 87 else -1
def num (k : Int) (b : Nat) : Int :=
  if k = 1 then (if sec b = 0 then -1 else 0)
  else if k = 2 then (if 97 ≤ b ∧ b ≤ 100 then (b : Int) - 97 else -1)
  else if k = 3 then digit b 102
  else if k = 4 then digit b 118
  else if k = 5 then (if b = 46 then 0 else -1)
  else -1

theorem cls2_cases (op : Nat) : cls2 op = 114 ∨ cls2 op = 46 ∨ cls2 op = 0 := by
  unfold cls2
  split
  · exact .inl rfl
  · split
    · exact .inr (.inl rfl)
    · exact .inr (.inr rfl)
theorem cls3_cases (op : Nat) (h : cls2 op ≠ 0) : cls3 op = 114 ∨ cls3 op = 46 ∨ cls3 op = 100 ∨ cls3 op = 112 := by
  unfold cls2 at h
  unfold cls3
  repeat' split
  all_goals first | omega | (split at h <;> first | omega | (split at h <;> omega))
theorem sec_zero (b : Nat) : sec b = 0 ↔ cls2 b = 0 := by
  unfold sec
  rcases cls2_cases b with h | h | h <;> simp [h]
/-- The code's test is the document's. -/
theorem num_neg (op pl b : Nat) (h : pl ≠ 0 → cls2 op ≠ 0) : num (kind op pl) b < 0 ↔ okB op pl b = false := by
  unfold kind okB
  by_cases h0 : pl = 0
  · simp [h0, num, sec_zero]
    split <;> simp_all
  · have hc := h h0
    simp only [h0, if_false]
    by_cases h1 : pl = 1
    · simp only [h1, if_true, sec]
      rcases cls2_cases op with e | e | e
      · simp [e, num, stand]; split <;> omega
      · simp [e, num, stand]; split <;> omega
      · exact absurd e hc
    · simp only [h1, if_false, thr]
      rcases cls3_cases op hc with e | e | e | e <;> simp [e, num, stand, digit] <;> split <;> (try split) <;> omega
theorem okB_sign {op b : Nat} (h : okB op 0 b = true) : cls2 b ≠ 0 := by simpa [okB] using h
theorem stand_r {c : Nat} (b : Nat) (h : c = 114) : stand c b = decide (97 ≤ b ∧ b ≤ 100) := by simp [stand, h]
theorem stand_d {c : Nat} (b : Nat) (h : c = 100) : stand c b = decide ((48 ≤ b ∧ b ≤ 57) ∨ (97 ≤ b ∧ b ≤ 102)) := by simp [stand, h]
theorem stand_p {c : Nat} (b : Nat) (h : c = 112) : stand c b = decide ((48 ≤ b ∧ b ≤ 57) ∨ (97 ≤ b ∧ b ≤ 118)) := by simp [stand, h]
theorem stand_o {c : Nat} (b : Nat) (h1 : c ≠ 114) (h2 : c ≠ 100) (h3 : c ≠ 112) : stand c b = decide (b = 46) := by simp [stand, h1, h2, h3]

/-! The document's table: the signs in their order, and what must stand behind each. -/
def sg (k : Nat) : Nat := [61, 43, 45, 60, 62, 40, 41, 63, 35, 106, 122, 105, 109, 101, 104].getD k 0
def sc2 (k : Nat) : Nat := [114, 114, 114, 114, 114, 114, 114, 114, 114, 46, 114, 46, 46, 46, 46].getD k 0
def sc3 (k : Nat) : Nat := [100, 114, 114, 100, 100, 114, 114, 46, 46, 112, 112, 112, 46, 46, 46].getD k 0
theorem table : ∀ k, k < 15 → cls2 (sg k) = sc2 k ∧ cls3 (sg k) = sc3 k ∧ sc2 k ≠ 0 ∧ sg k < 256 ∧ sc2 k < 256 ∧ sc3 k < 256 := by decide
theorem no_sign {b : Nat} (h : ∀ k, k < 15 → sg k ≠ b) : cls2 b = 0 := by
  have h0 := h 0 (by omega)
  have h1 := h 1 (by omega)
  have h2 := h 2 (by omega)
  have h3 := h 3 (by omega)
  have h4 := h 4 (by omega)
  have h5 := h 5 (by omega)
  have h6 := h 6 (by omega)
  have h7 := h 7 (by omega)
  have h8 := h 8 (by omega)
  have h9 := h 9 (by omega)
  have h10 := h 10 (by omega)
  have h11 := h 11 (by omega)
  have h12 := h 12 (by omega)
  have h13 := h 13 (by omega)
  have h14 := h 14 (by omega)
  simp [sg] at h0 h1 h2 h3 h4 h5 h6 h7 h8 h9 h10 h11 h12 h13 h14
  unfold cls2
  rw [if_neg (by omega), if_neg (by omega)]
theorem okAt_first {s : ByteArray} {n k : Nat} (hm : n % 3 = 0) (hk : k < 15) (he : sg k = byt s n) : okAt s n = true := by
  unfold okAt
  rw [hm]
  obtain ⟨t1, _, t3, _⟩ := table k hk
  simp [okB, ← he, t1, t3]
theorem okAt_none {s : ByteArray} {n : Nat} (hm : n % 3 = 0) (h : ∀ k, k < 15 → sg k ≠ byt s n) : okAt s n = false := by
  unfold okAt
  rw [hm]
  simp [okB, no_sign h]
end Code
end Go.Proofs.Ytbjplijhoibclaa
