import Derived.Test.YtbjplijhoibclaaMach
namespace Go.Proofs.Ytbjplijhoibclaa
namespace Mach
open _root_.Go.Proofs.Ytbjplijhoibclaa.Code

theorem moved_n (o r t : Nat) (s : StV) (i : Int) : (moved o r t s i).n = s.n := by
  unfold moved; repeat' split
  all_goals rfl
theorem turned_n (o r t : Nat) (s : StV) : (turned o r t s).n = s.n := by
  unfold turned; repeat' split
  all_goals rfl
theorem doIns_n (o r t : Nat) (s : StV) (i : Int) : (doIns o r t s i).n = s.n := by unfold doIns; rw [turned_n, moved_n]
theorem arrive_n (s : StV) (c : ChV) : (arrive s c).n = s.n := by
  unfold arrive; simp only; split <;> rfl
theorem arrive_halted (s : StV) (c : ChV) : (arrive s c).halted = s.halted := by
  unfold arrive; simp only; split <;> rfl
theorem arrive_legal {s : StV} {c : ChV} (hs : Legal s) (hc : Chosen c) : Legal (arrive s c) := by
  obtain ⟨n0, n1, pc0, pc1, hregs, hcells, hc0, hc1, hh0, hh1, hb0, hb1⟩ := hs
  obtain ⟨i0, i1, t0, t1⟩ := hc
  unfold arrive
  simp only
  split
  · rename_i h
    exact ⟨n0, n1, by simp only; omega, by simp only; omega, hregs, hcells, by simp only; omega, by simp only; omega, hh0, hh1, by simp only; omega, pc1⟩
  · exact ⟨n0, n1, pc0, pc1, hregs, hcells, by simp only; omega, by simp only; omega, hh0, hh1, hb0, hb1⟩
theorem refusal_zero {p : ByteArray} {s : StV} {c : ChV} (h : refusal p s c = 0) : Good p ∧ Legal s ∧ Chosen c ∧ s.halted = false ∧ s.n < 10000 := by
  unfold refusal at h
  by_cases h1 : (chk p).1 = 0
  · rw [if_neg (by simp [h1])] at h
    by_cases h2 : legal s = false
    · rw [if_pos h2] at h; omega
    · rw [if_neg h2] at h
      by_cases h3 : chosen c = false
      · rw [if_pos h3] at h; omega
      · rw [if_neg h3] at h
        by_cases h4 : s.halted = true ∨ 10000 ≤ s.n
        · rw [if_pos h4] at h; omega
        · exact ⟨good_of h1, (legal_iff s).1 (by simpa using h2), (chosen_iff c).1 (by simpa using h3), by simp at h4; exact h4.1, by simp at h4; exact h4.2⟩
  · rw [if_pos h1] at h
    exact absurd h h1
end Mach
end Go.Proofs.Ytbjplijhoibclaa
