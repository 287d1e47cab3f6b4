import Derived.Test.YtcmoffiigpchiaaGreatStepRH
namespace Go.Proofs.YtcmoffiigpchiaaGreat
open Go.RowKit

/-- What an append inside the document's Step leaves. -/
theorem app_done {w wc w2 w3 : World} {b g k k0 g1 cap1 g' cap' : Nat} {q : RM} {fr : ByteArray} {c2 c1 cz : Array Value}
    (R : RefAt wc b g1 cap1 q) (L2 : Below wc.heap.size wc w2)
    (O3 : w3.ownsRow 0 9 1 (.slice (some ⟨g', 0, none⟩) (q.all.length + 1) cap') (q.all.length + 1) (q.all.map Value.string ++ [.string fr]))
    (G3 : (w2.alloc (.cells #[.string fr] 9)).grownBy w3 (some g1)) (A3 : some g1 = some g' ∨ g' = (w2.alloc (.cells #[.string fr] 9)).heap.size)
    (X : Box wc k c2) (Y : Box wc k0 c1) (Z : Box wc w.heap.size cz) (K : Keeps w wc [b, g]) (nkb : k ≠ b) (nKb : k0 ≠ b) (nwb : w.heap.size ≠ b)
    (HG1 : (g1 = g ∨ w.heap.size ≤ g1) ∧ g1 ≠ k ∧ g1 ≠ k0 ∧ g1 ≠ w.heap.size) (HG2 : g1 ∈ [b, g] ∨ w.heap.size ≤ g1) :
    ∃ g2 cap2, RefAt (w3.setCell ⟨b, 12, none⟩ (.slice (some ⟨g', 0, none⟩) (q.all.length + 1) cap')) b g2 cap2 { q with all := q.all ++ [fr] } ∧ Box (w3.setCell ⟨b, 12, none⟩ (.slice (some ⟨g', 0, none⟩) (q.all.length + 1) cap')) k c2 ∧ Box (w3.setCell ⟨b, 12, none⟩ (.slice (some ⟨g', 0, none⟩) (q.all.length + 1) cap')) k0 c1 ∧ Box (w3.setCell ⟨b, 12, none⟩ (.slice (some ⟨g', 0, none⟩) (q.all.length + 1) cap')) w.heap.size cz ∧ Keeps w (w3.setCell ⟨b, 12, none⟩ (.slice (some ⟨g', 0, none⟩) (q.all.length + 1) cap')) [b, g] ∧ (g2 = g ∨ w.heap.size ≤ g2) ∧ g2 ≠ k ∧ g2 ≠ k0 ∧ g2 ≠ w.heap.size := by
  obtain ⟨a1, a2, a3⟩ := appended R L2 O3 G3 A3
  obtain ⟨q1, q2, q3, q4⟩ := HG1
  have ks := K.size
  have x1 := X.lt
  have y1 := Y.lt
  have z1 := Z.lt
  refine ⟨g', cap', a1, X.keeps a3 (by simp; omega), Y.keeps a3 (by simp; omega), Z.keeps a3 (by simp; omega), keeps_more K a3 HG2, ?_, ?_, ?_, ?_⟩
  · rcases a2 with h | h
    · rw [h]; exact q1
    · right; omega
  · rcases a2 with h | h <;> omega
  · rcases a2 with h | h <;> omega
  · rcases a2 with h | h <;> omega
end Go.Proofs.YtcmoffiigpchiaaGreat
