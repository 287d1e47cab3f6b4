import Derived.Test.YtbjplijhoibclaaFrame
namespace Go.Proofs.Ytbjplijhoibclaa

/-- The document's machine. -/
structure RM where
  p : ByteArray
  room : Int
  period : Int
  s : StV
  all : List ByteArray
  from_ : Nat
  last : Int

namespace RM
def isC (f : ByteArray) : Bool := decide (Code.byt f 0 = 67)
def nthC (all : List ByteArray) (j : Nat) : Bool := isC (all.getD j ⟨#[]⟩)
/-- The first frame of a state at a place or behind it. -/
def firstC (all : List ByteArray) (i : Nat) : Option Nat := (List.range all.length).find? fun j => decide (i ≤ j) && nthC all j
/-- Is there room? Else, where do the kept ones begin; are none left? -/
def place (m : RM) : RM × Bool :=
  if (m.all.length : Int) - m.from_ < m.room then (m, false)
  else match firstC m.all (m.from_ + 1) with
    | some j => ({ m with from_ := j }, false)
    | none => ({ m with from_ := m.all.length }, true)
def save (m : RM) : RM :=
  let q := (place m).1
  { q with all := q.all ++ [Frame.ofState q.all.length m.s], last := m.s.n }

theorem firstC_here {all : List ByteArray} {i j : Nat} (hi : i ≤ j) (hj : j < all.length) (hc : nthC all j = true) (hb : ∀ k, i ≤ k → k < j → nthC all k = false) : firstC all i = some j := by
  unfold firstC
  rw [List.find?_range_eq_some]
  refine ⟨by simp [hi, hc], by simpa using hj, fun k hk => ?_⟩
  by_cases h : i ≤ k
  · simp [hb k h hk]
  · simp [h]
theorem firstC_none {all : List ByteArray} {i : Nat} (hb : ∀ k, i ≤ k → k < all.length → nthC all k = false) : firstC all i = none := by
  unfold firstC
  rw [List.find?_range_eq_none]
  intro k hk
  by_cases h : i ≤ k
  · simp [hb k h hk]
  · simp [h]

/-- Frames one behind the other. -/
def joined : List ByteArray → ByteArray
  | [] => ⟨#[]⟩
  | f :: r => f ++ joined r
def traceOf (m : RM) : ByteArray := joined (m.all.drop m.from_)
theorem joined_snoc (l : List ByteArray) (f : ByteArray) : joined (l ++ [f]) = joined l ++ f := by
  induction l with
  | nil =>
    show f ++ (⟨#[]⟩ : ByteArray) = ⟨#[]⟩ ++ f
    apply ByteArray.ext
    simp [ByteArray.data_append]
  | cons g r ih =>
    show g ++ joined (r ++ [f]) = (g ++ joined r) ++ f
    rw [ih, ByteArray.append_assoc]
theorem joined_size (l : List ByteArray) (h : ∀ f ∈ l, f.size = 40) : (joined l).size = 40 * l.length := by
  induction l with
  | nil => rfl
  | cons g r ih =>
    show (g ++ joined r).size = 40 * (r.length + 1)
    rw [ByteArray.size_append, h g (by simp), ih (fun f hf => h f (by simp [hf]))]
    omega
theorem drop_take_succ (l : List ByteArray) (i k : Nat) (hk : k < l.length) (hi : i ≤ k) : (l.drop i).take (k + 1 - i) = (l.drop i).take (k - i) ++ [l.getD k ⟨#[]⟩] := by
  rw [show k + 1 - i = (k - i) + 1 by omega, List.take_add_one, List.getElem?_drop, show i + (k - i) = k by omega, List.getElem?_eq_getElem hk]
  simp [List.getD, hk]

/-- What holds of every machine. -/
structure Ok (m : RM) : Prop where
  good : Mach.Good m.p
  room0 : 2 ≤ m.room
  room1 : m.room ≤ 64
  period0 : 1 ≤ m.period
  period1 : m.period ≤ 50
  legal : Mach.Legal m.s
  from1 : m.from_ ≤ m.all.length
  frames : ∀ f ∈ m.all, f.size = 40
  last0 : 0 ≤ m.last
  last1 : m.last ≤ m.s.n
  size : m.all.length ≤ 4611686018427387904
  kept : m.all.length - m.from_ ≤ 64
theorem place_s (m : RM) : (place m).1.s = m.s := by
  unfold place
  split
  · rfl
  · split <;> rfl
theorem place_all (m : RM) : (place m).1.all = m.all := by
  unfold place
  split
  · rfl
  · split <;> rfl
theorem firstC_some {all : List ByteArray} {i j : Nat} (h : firstC all i = some j) : i ≤ j ∧ j < all.length ∧ nthC all j = true := by
  unfold firstC at h
  rw [List.find?_range_eq_some] at h
  obtain ⟨h1, h2, -⟩ := h
  simp at h1 h2
  exact ⟨h1.1, h2, h1.2⟩
/-- Behind it there is room. -/
theorem place_room {m : RM} (hm : m.Ok) (hk : (m.all.length : Int) - m.from_ ≤ m.room) : ((place m).1.all.length : Int) - (place m).1.from_ < m.room ∧ (place m).1.from_ ≤ (place m).1.all.length ∧ m.from_ ≤ (place m).1.from_ := by
  have hf := hm.from1
  have hr := hm.room0
  unfold place
  split
  · rename_i h
    exact ⟨h, hf, Nat.le_refl _⟩
  · split
    · rename_i j hj
      obtain ⟨h1, h2, -⟩ := firstC_some hj
      exact ⟨by simp only; omega, by simp only; omega, by simp only; omega⟩
    · exact ⟨by simp only; omega, Nat.le_refl _, hf⟩
theorem place_ok {m : RM} (hm : m.Ok) : (place m).1.Ok := by
  obtain ⟨good, r0, r1, q0, q1, lg, f1, fr, l0, l1, sz, kp⟩ := hm
  unfold place
  split
  · exact ⟨good, r0, r1, q0, q1, lg, f1, fr, l0, l1, sz, kp⟩
  · split
    · rename_i j hj
      obtain ⟨h1, h2, -⟩ := firstC_some hj
      exact ⟨good, r0, r1, q0, q1, lg, by simp only; omega, fr, l0, l1, sz, by simp only; omega⟩
    · exact ⟨good, r0, r1, q0, q1, lg, Nat.le_refl _, fr, l0, l1, sz, by simp only; omega⟩
end RM
end Go.Proofs.Ytbjplijhoibclaa
