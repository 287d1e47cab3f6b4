import Derived.Test.YtbjplijhoibclaaRec
import Derived.Test.YtbjplijhoibclaaMach3
namespace Go.Proofs.Ytbjplijhoibclaa
namespace RM

/-- Does the step do the instruction that asks? -/
def asks (p : ByteArray) (s : StV) (c : ChV) : Bool := decide (3 * (Mach.arrive s c).pc.toNat < p.size) && decide (Mach.op p (Mach.arrive s c).pc.toNat = 63)
def counts (p : ByteArray) (s : StV) (c : ChV) : Bool := c.interrupt || decide (c.ticks ≠ 0) || (asks p s c && decide (c.input ≠ 0))
/-- A frame is written, where there is room. -/
def put (m : RM) (f : ByteArray) : RM := { m with all := m.all ++ [f] }
/-- A choice is written down. -/
def note (m : RM) (c : ChV) : RM :=
  let q := (place m).1
  let r := if (place m).2 = true then { (put q (Frame.ofState q.all.length m.s)) with last := m.s.n } else q
  put r (Frame.ofChoice r.all.length m.s.n.toNat c)
/-- What Step answers with. -/
def stepErr (m : RM) (c : ChV) : Int := if Mach.chosen c = false then 3 else if m.s.halted = true ∨ 10000 ≤ m.s.n then 5 else 0
/-- A step that can be done. -/
def went (m : RM) (c : ChV) : RM :=
  let q := if counts m.p m.s c = true then note m c else m
  { q with s := Mach.next m.p m.s c }
def stepped (m : RM) (c : ChV) : RM :=
  if m.period ≤ (went m c).s.n - (went m c).last then save (went m c) else went m c
def step (m : RM) (c : ChV) : RM × Int := if stepErr m c = 0 then (stepped m c, 0) else (m, stepErr m c)

end RM

namespace Mach
open _root_.Go.Proofs.Ytbjplijhoibclaa.Code
theorem turned_legal {o r t : Nat} {s : StV} (hs : Legal s) (hf : Fits o r t) : Legal (turned o r t s) := by
  obtain ⟨n0, n1, pc0, pc1, hregs, hcells, hc0, hc1, hh0, hh1, hb0, hb1⟩ := hs
  obtain ⟨hsg, r4, t16, t4, t32⟩ := hf
  unfold turned
  by_cases h1 : o = 106
  · subst h1
    have := t32 (by decide)
    rw [if_pos rfl]
    exact ⟨n0, n1, by simp only; omega, by simp only; omega, hregs, hcells, hc0, hc1, hh0, hh1, hb0, hb1⟩
  rw [if_neg h1]
  by_cases h2 : o = 122
  · subst h2
    have := t32 (by decide)
    rw [if_pos rfl]
    split
    · exact ⟨n0, n1, by simp only; omega, by simp only; omega, hregs, hcells, hc0, hc1, hh0, hh1, hb0, hb1⟩
    · exact ⟨n0, n1, pc0, pc1, hregs, hcells, hc0, hc1, hh0, hh1, hb0, hb1⟩
  rw [if_neg h2]
  by_cases h3 : o = 105
  · subst h3
    have := t32 (by decide)
    rw [if_pos rfl]
    exact ⟨n0, n1, pc0, pc1, hregs, hcells, hc0, hc1, by simp only; omega, by simp only; omega, hb0, hb1⟩
  rw [if_neg h3]
  by_cases h4 : o = 109
  · rw [if_pos h4]
    exact ⟨n0, n1, pc0, pc1, hregs, hcells, hc0, hc1, by simp only; omega, by simp only; omega, hb0, hb1⟩
  rw [if_neg h4]
  by_cases h5 : o = 101
  · rw [if_pos h5]
    split
    · exact ⟨n0, n1, pc0, pc1, hregs, hcells, hc0, hc1, hh0, hh1, hb0, hb1⟩
    · exact ⟨n0, n1, by simp only; omega, by simp only; omega, hregs, hcells, hc0, hc1, hh0, hh1, by simp only; omega, by simp only; omega⟩
  rw [if_neg h5]
  split
  · exact ⟨n0, n1, pc0, pc1, hregs, hcells, hc0, hc1, hh0, hh1, hb0, hb1⟩
  · exact ⟨n0, n1, pc0, pc1, hregs, hcells, hc0, hc1, hh0, hh1, hb0, hb1⟩
theorem next_n (p : ByteArray) (s : StV) (c : ChV) : (next p s c).n = s.n + 1 := by
  unfold next exec
  simp only
  split
  · rw [doIns_n, arrive_n]
  · simp only [arrive_n]
/-- A step leads from a state of a machine to a state of a machine. -/
theorem next_legal {p : ByteArray} {s : StV} {c : ChV} (g : Good p) (hs : Legal s) (hc : Chosen c) (hn : s.n < 10000) : Legal (next p s c) := by
  have hl := arrive_legal hs hc
  have hnn := arrive_n s c
  unfold next exec
  simp only
  split
  · rename_i h
    have h31 := g.pc31 h
    have hb := bump_legal hl (by have := hl.pc0; omega)
    have ht := turned_legal (moved_legal (i := c.input) hb (o := op p (arrive s c).pc.toNat) (r := fst p (arrive s c).pc.toNat) (t := snd p (arrive s c).pc.toNat)) (g.fits h)
    have hdn : (doIns (op p (arrive s c).pc.toNat) (fst p (arrive s c).pc.toNat) (snd p (arrive s c).pc.toNat) (arrive s c) c.input).n = s.n := by rw [doIns_n, arrive_n]
    obtain ⟨n0, n1, a1, a2, a3, a4, a5, a6, a7, a8, a9, a10⟩ := ht
    exact ⟨by simp only; rw [hdn]; have := hs.n0; omega, by simp only; rw [hdn]; omega, a1, a2, a3, a4, a5, a6, a7, a8, a9, a10⟩
  · obtain ⟨n0, n1, a1, a2, a3, a4, a5, a6, a7, a8, a9, a10⟩ := hl
    exact ⟨by simp only; omega, by simp only; omega, a1, a2, a3, a4, a5, a6, a7, a8, a9, a10⟩
end Mach
end Go.Proofs.Ytbjplijhoibclaa
