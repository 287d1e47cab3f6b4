import Derived.Test.YtcmoffiigpchiaaKeepF
import Derived.Test.YtcmoffiigpchiaaTale
namespace Go.Proofs.Ytcmoffiigpchiaa
open Go.RowKit
namespace Keep

/-- All states that a machine of a program has, by what comes to it. -/
def FL (p : ByteArray) (V : Nat → Int) (n : Nat) : Nat → List StV
  | 0 => [Frame.begin]
  | i + 1 =>
    if i % n = n - 1 then FL p V n i
    else
      let s := (FL p V n i).getLastD Frame.begin
      if s.halted = true ∨ 10000 ≤ s.n then FL p V n i else FL p V n i ++ [Mach.next p s (chOf (V i))]
def lastOf (l : List StV) : StV := l.getLastD Frame.begin
theorem lastOf_snoc (l : List StV) (s : StV) : lastOf (l ++ [s]) = s := by simp [lastOf]
theorem FL_save {p : ByteArray} {V : Nat → Int} {n i : Nat} (h : i % n = n - 1) : FL p V n (i + 1) = FL p V n i := by
  show (if i % n = n - 1 then _ else _) = _
  rw [if_pos h]
theorem FL_stop {p : ByteArray} {V : Nat → Int} {n i : Nat} (hh : (lastOf (FL p V n i)).halted = true ∨ 10000 ≤ (lastOf (FL p V n i)).n) : FL p V n (i + 1) = FL p V n i := by
  show (if i % n = n - 1 then _ else _) = _
  split
  · rfl
  · simp only
    exact if_pos hh
theorem FL_step {p : ByteArray} {V : Nat → Int} {n i : Nat} (h : ¬ i % n = n - 1) (hh : ¬ ((lastOf (FL p V n i)).halted = true ∨ 10000 ≤ (lastOf (FL p V n i)).n)) : FL p V n (i + 1) = FL p V n i ++ [Mach.next p (lastOf (FL p V n i)) (chOf (V i))] := by
  show (if i % n = n - 1 then _ else _) = _
  rw [if_neg h]
  simp only
  exact if_neg hh
theorem FL_stopped {p : ByteArray} {V : Nat → Int} {n i : Nat} (hh : (lastOf (FL p V n i)).halted = true ∨ 10000 ≤ (lastOf (FL p V n i)).n) : ∀ j, i ≤ j → FL p V n j = FL p V n i := by
  intro j hj
  induction j with
  | zero =>
    have : i = 0 := by omega
    rw [this]
  | succ j ih =>
    by_cases h : i ≤ j
    · have e := ih h
      have : FL p V n (j + 1) = FL p V n j := FL_stop (by rw [e]; exact hh)
      rw [this, e]
    · have : i = j + 1 := by omega
      rw [this]
theorem FL_len {p : ByteArray} {V : Nat → Int} {n i : Nat} : (lastOf (FL p V n i)).n + 1 = ((FL p V n i).length : Int) := by
  induction i with
  | zero => rfl
  | succ i ih =>
    by_cases h : i % n = n - 1
    · rw [FL_save h]; exact ih
    · by_cases hh : (lastOf (FL p V n i)).halted = true ∨ 10000 ≤ (lastOf (FL p V n i)).n
      · rw [FL_stop hh]; exact ih
      · rw [FL_step h hh, lastOf_snoc, Mach.next_n]
        simp
        omega

/-- What is known of a film on its way. -/
structure Runs (R Q : Int) (p : ByteArray) (V : Nat → Int) (n i : Nat) (m : RM) (l : List StV) (sv : Int) : Prop where
  list : l = FL p V n i
  state : m.s = lastOf l
  pm : m.p = p
  inv : m.Inv
  len : m.all.length ≤ 1 + 3 * i
  tale : ∃ G, Hist.Tale p m.all m.s l G
  fit : Hist.Fit m sv
  room : m.room = R
  period : m.period = Q
theorem Runs.save {R Q : Int} {p : ByteArray} {V : Nat → Int} {n i : Nat} {m : RM} {l : List StV} {sv : Int} (h : Runs R Q p V n i m l sv) (hs : i % n = n - 1) (hl : 1 + 3 * i < 4611686018427387901) : Runs R Q p V n (i + 1) (RM.save m) l (sv + 1) := by
  obtain ⟨a1, a2, a3, a4, a5, ⟨G, a6⟩, a7, a8, a9⟩ := h
  refine ⟨by rw [FL_save hs]; exact a1, by rw [(RM.save_p m).2.2]; exact a2, by rw [(RM.save_p m).1]; exact a3, RM.save_inv a4 (by omega), by rw [RM.save_len]; omega, ⟨_, Hist.tale_save a6⟩, Hist.fit_save (d := 1) a4 a7 (.inl rfl), (RM.place_room' m).trans a8, (RM.save_p m).2.1.trans a9⟩
theorem Runs.step {R Q : Int} {p : ByteArray} {V : Nat → Int} {n i : Nat} {m : RM} {l : List StV} {sv : Int} (h : Runs R Q p V n i m l sv) (hs : ¬ i % n = n - 1) (hh : ¬ ((lastOf l).halted = true ∨ 10000 ≤ (lastOf l).n)) (hl : 1 + 3 * i < 4611686018427387901) :
    Runs R Q p V n (i + 1) (RM.step m (chOf (V i))).1 (l ++ [Mach.next p (lastOf l) (chOf (V i))]) sv ∧ (RM.step m (chOf (V i))).2 = 0 ∧ Mach.step p (lastOf l) (chOf (V i)) = (Mach.next p (lastOf l) (chOf (V i)), 0) ∧ Mach.Legal (Mach.next p (lastOf l) (chOf (V i))) := by
  obtain ⟨a1, a2, a3, a4, a5, ⟨G, a6⟩, a7, a8, a9⟩ := h
  have hc := chOf_chosen (V i)
  have he : RM.stepErr m (chOf (V i)) = 0 := by
    unfold RM.stepErr
    rw [(Mach.chosen_iff _).2 hc, a2]
    simp only [Bool.true_eq_false, if_false]
    rw [if_neg hh]
  obtain ⟨_, h1, h2⟩ := RM.stepErr_zero he
  obtain ⟨b1, b2, b3, b4⟩ := RM.stepped_inv a4 hc h2 (by omega)
  have e : RM.step m (chOf (V i)) = (RM.stepped m (chOf (V i)), 0) := by
    unfold RM.step
    rw [if_pos he]
  have hr : Mach.refusal p (lastOf l) (chOf (V i)) = 0 := by
    have := RM.stepErr_eq a4.ok (chOf (V i))
    rw [he, a2, a3] at this
    exact this
  rw [e]
  have hT := Hist.tale_stepped (c := chOf (V i)) (m := m) (l := l) (G := G) (by rw [a3]; exact a6) a4.ok.good hc h1 h2
  rw [a3, a2] at hT
  refine ⟨⟨?_, ?_, by rw [b3, a3], b1, by simp only; omega, hT, Hist.fit_stepped a4 a7 (RM.went_inv a4 hc h2 (by omega)).1, (Hist.stepped_rp m _).1.trans a8, (Hist.stepped_rp m _).2.trans a9⟩, rfl, ?_, ?_⟩
  · rw [a1] at hh ⊢
    rw [FL_step hs hh]
  · rw [lastOf_snoc]
    show (RM.stepped m (chOf (V i))).s = _
    rw [b2, a2, a3]
  · unfold Mach.step
    rw [if_pos hr]
  · have hg := a4.ok.good
    have hlg := a4.ok.legal
    rw [a3] at hg
    rw [a2] at hlg h2
    exact Mach.next_legal hg hlg hc h2
theorem Runs.stop {R Q : Int} {p : ByteArray} {V : Nat → Int} {n i : Nat} {m : RM} {l : List StV} {sv : Int} (h : Runs R Q p V n i m l sv) (hh : (lastOf l).halted = true ∨ 10000 ≤ (lastOf l).n) :
    (RM.step m (chOf (V i))).2 = 5 ∧ (RM.step m (chOf (V i))).1 = m ∧ Mach.step p (lastOf l) (chOf (V i)) = (Mach.zero, 5) ∧ ∀ j, i ≤ j → l = FL p V n j := by
  obtain ⟨a1, a2, a3, a4, a5, ⟨G, a6⟩, a7, a8, a9⟩ := h
  have hc := chOf_chosen (V i)
  have he : RM.stepErr m (chOf (V i)) = 5 := by
    unfold RM.stepErr
    rw [(Mach.chosen_iff _).2 hc, a2]
    simp only [Bool.true_eq_false, if_false]
    rw [if_pos hh]
  have hr : Mach.refusal p (lastOf l) (chOf (V i)) = 5 := by
    have := RM.stepErr_eq a4.ok (chOf (V i))
    rw [he, a2, a3] at this
    exact this
  refine ⟨?_, ?_, ?_, ?_⟩
  · unfold RM.step
    rw [if_neg (by omega)]
    exact he
  · unfold RM.step
    rw [if_neg (by omega)]
  · unfold Mach.step
    rw [if_neg (by omega), hr]
  · intro j hj
    rw [a1] at hh ⊢
    exact (FL_stopped hh j hj).symm
end Keep
end Go.Proofs.Ytcmoffiigpchiaa
