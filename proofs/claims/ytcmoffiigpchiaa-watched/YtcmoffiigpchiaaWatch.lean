import Derived.Test.YtcmoffiigpchiaaTale
namespace Go.Proofs.Ytcmoffiigpchiaa
open _root_.Go.Proofs.Ytcmoffiigpchiaa.Code (byt)
namespace Hist

theorem atOf_some {p : ByteArray} {l : List En} {n : Int} {x : StV} (h : atOf p l n = (x, 0)) : stood p l n = some x := by
  unfold atOf at h
  split at h
  · rename_i h1
    exact absurd (Prod.mk.inj h).2 h1
  · split at h
    · rename_i s hs
      rw [hs, (Prod.mk.inj h).1]
    · exact absurd (Prod.mk.inj h).2 (by decide)
theorem legal_stood {p : ByteArray} {l : List En} {n : Int} {s : StV} (hg : (Code.chk p).1 = 0) (hR : IsRun l) (hne : l ≠ []) (h1 : firstN l ≤ n) (hs : stood p l n = some s) : Mach.Legal s := by
  have hm := walk_meets (p := p) hg hR hne (n - firstN l).toNat
  have ho := hm.opt
  rw [show firstN l + (((n - firstN l).toNat : Nat) : Int) = n by omega, hs] at ho
  unfold Pt.opt at ho
  split at ho
  · rename_i hk
    have hl := hm.legal hk
    rw [Option.some.inj ho] at hl
    exact hl
  · cases ho
/-- A cell of the states, by the time. -/
def cellAt (l : List StV) (i c : Nat) : Nat := match l[i]? with | some s => cellOf s c | none => 0
/-- Who asks one time after the other. -/
def wantN (l : List StV) (c lo : Nat) : Nat → Int
  | 0 => -1
  | k + 1 => if cellAt l (lo + k + 1) c ≠ cellAt l (lo + k) c then ((lo + k + 1 : Nat) : Int) else wantN l c lo k
theorem down_want {p t : ByteArray} {l : List StV} {M : List En} (hS : Shows p t l M) (c : Nat) : ∀ k : Nat, firstN M + k ≤ lastTo M → down p M c k = (wantN l c (firstN M).toNat k, 0) := by
  have h0 := hS.lo
  intro k
  induction k with
  | zero => intro _; rfl
  | succ k ih =>
    intro hk
    obtain ⟨x, hx, ax⟩ := hS.at_ (firstN M + (k : Int)) (by omega) (by omega)
    obtain ⟨y, hy, ay⟩ := hS.at_ (firstN M + ((k + 1 : Nat) : Int)) (by omega) (by omega)
    rw [show (firstN M + (k : Int)).toNat = (firstN M).toNat + k by omega] at hx
    rw [show (firstN M + ((k + 1 : Nat) : Int)).toNat = (firstN M).toNat + k + 1 by omega] at hy
    unfold down wantN cellAt
    rw [atOf_some ax, atOf_some ay, hx, hy]
    simp only [Option.map_some, Option.some.injEq]
    by_cases hd : cellOf x c = cellOf y c
    · rw [if_neg (by simp [hd]), if_neg (by simp [hd])]
      exact ih (by omega)
    · rw [if_pos hd, if_pos (fun e => hd e.symm)]
      rw [show firstN M + ((k + 1 : Nat) : Int) = (((firstN M).toNat + k + 1 : Nat) : Int) by omega]
theorem changed_want {p t : ByteArray} {l : List StV} {M : List En} (hS : Shows p t l M) {n : Int} (h1 : firstN M ≤ n) (h2 : n ≤ lastTo M) {c : Nat} (hc : c ≤ 15) : changedOf p M n (c : Int) = (wantN l c (firstN M).toNat (n - firstN M).toNat, 0) := by
  obtain ⟨x, hx, ax⟩ := hS.at_ n h1 h2
  unfold changedOf
  rw [ax, if_neg (by simp), if_neg (by omega), Int.toNat_natCast]
  exact down_want hS c _ (by omega)
/-- Each state of the span has its cells. -/
theorem shown_cells {p t : ByteArray} {l : List StV} {M : List En} (hg : (Code.chk p).1 = 0) (hR : IsRun M) (hS : Shows p t l M) {i : Nat} (h1 : firstN M ≤ i) (h2 : (i : Int) ≤ lastTo M) : ∃ s, l[i]? = some s ∧ s.cells.size = 16 := by
  obtain ⟨x, hx, ax⟩ := hS.at_ i h1 h2
  rw [Int.toNat_natCast] at hx
  exact ⟨x, hx, (legal_stood hg hR hS.ne h1 (atOf_some ax)).cells⟩
end Hist
end Go.Proofs.Ytcmoffiigpchiaa
