import Derived.Test.YtbjplijhoibclaaMach2
namespace Go.Proofs.Ytbjplijhoibclaa
namespace Mach
open _root_.Go.Proofs.Ytbjplijhoibclaa.Code

theorem moved_legal {o r t : Nat} {s : StV} {i : Int} (hs : Legal s) : Legal (moved o r t s i) := by
  obtain ⟨n0, n1, pc0, pc1, hregs, hcells, hc0, hc1, hh0, hh1, hb0, hb1⟩ := hs
  unfold moved; repeat' split
  all_goals exact ⟨n0, n1, pc0, pc1, by first | exact hregs | (simp only [setB_size]; exact hregs), by first | exact hcells | (simp only [setB_size]; exact hcells), hc0, hc1, hh0, hh1, hb0, hb1⟩
theorem bump_legal {s : StV} (hs : Legal s) (h : s.pc ≤ 31) : Legal { s with pc := s.pc + 1 } := by
  obtain ⟨n0, n1, pc0, pc1, hregs, hcells, hc0, hc1, hh0, hh1, hb0, hb1⟩ := hs
  exact ⟨n0, n1, by simp only; omega, by simp only; omega, hregs, hcells, hc0, hc1, hh0, hh1, hb0, hb1⟩
theorem Good.pc31 {p : ByteArray} (g : Good p) {k : Nat} (h : 3 * k < p.size) : k ≤ 31 := by
  have := g.short; have := g.whole; omega
theorem refusal_chk {p : ByteArray} {s : StV} {c : ChV} (h : refusal p s c = 0) : (chk p).1 = 0 := by
  unfold refusal at h
  by_cases h1 : (chk p).1 = 0
  · exact h1
  · rw [if_pos h1] at h
    exact absurd h h1
end Mach
end Go.Proofs.Ytbjplijhoibclaa
