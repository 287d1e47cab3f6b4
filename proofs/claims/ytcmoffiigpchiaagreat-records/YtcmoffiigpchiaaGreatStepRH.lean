import Derived.Test.YtcmoffiigpchiaaGreatStepRC
import Derived.Test.YtcmoffiigpchiaaGreatBase
import Derived.Deep.DeepCutAuto
import Derived.Deep.RegionWith
namespace Go.Proofs.YtcmoffiigpchiaaGreat
open Go.RowKit

/-- Whether the step did the instruction that asks. -/
def AskOf (ii : ByteArray) (aq : Bool) : Prop := (ii.toList.isEmpty = true ∧ aq = false) ∨ (∃ _h : 0 < ii.size, ii.toList.isEmpty = false ∧ aq = decide (Code.byt ii 0 = 63))
theorem beq63 (x : Nat) : ((x : Int) == 63) = decide (x = 63) := by
  by_cases h : x = 63
  · simp [h]
  · have : ¬ (x : Int) = 63 := by omega
    simp [h, this]
theorem counts_facts {p : ByteArray} {s : StV} {c : ChV} (g : Mach.Good p) (h : RM.counts p s c = true) :
    ∃ aq : Bool, Hid (AskOf (insOf p s c) aq ∧ (c.interrupt || decide (c.ticks ≠ 0) || (aq && decide (c.input ≠ 0))) = true) := by
  refine ⟨RM.asks p s c, hide ⟨?_, h⟩⟩
  unfold insOf AskOf
  split
  · rename_i hp
    obtain ⟨_, hi⟩ := isIns_extract g hp
    right
    refine ⟨by rw [hi.size]; omega, ?_, ?_⟩
    · have hs := hi.size
      generalize p.extract (3 * (Mach.arrive s c).pc.toNat) (3 * (Mach.arrive s c).pc.toNat + 3) = x at *
      cases hx : x.toList.isEmpty with
      | false => rfl
      | true =>
        exfalso
        have hl : x.data.toList = [] := by rw [ByteArray.toList_eq] at hx; simpa using hx
        have hz : x.data.toList.length = x.size := by rw [Array.length_toList]; rfl
        rw [hl] at hz
        simp at hz
        omega
    · rw [hi.b0]
      simp [RM.asks, hp]
  · rename_i hp
    left
    refine ⟨by rw [ByteArray.toList_eq]; rfl, by simp [RM.asks, hp]⟩
namespace RM
theorem place_pp (m : RM) : (place m).1.p = m.p ∧ (place m).1.period = m.period := by
  unfold place
  split
  · exact ⟨rfl, rfl⟩
  · split <;> exact ⟨rfl, rfl⟩
theorem place_last' (m : RM) : (place m).1.last = m.last := by
  unfold place
  split
  · rfl
  · split <;> rfl
end RM
theorem nine_box' {w : World} {b : Nat} {a0 a1 a2 a3 a4 a5 a6 a7 a8 : Value} (h : Box w b #[a0, a1, a2, a3, a4, a5, a6, a7, a8]) (v0 v1 v2 v3 v4 v5 v6 v7 v8 : Value) :
    Box (((((((((w.setCell ⟨b, 0, none⟩ v0).setCell ⟨b, 1, none⟩ v1).setCell ⟨b, 2, none⟩ v2).setCell ⟨b, 3, none⟩ v3).setCell ⟨b, 4, none⟩ v4).setCell ⟨b, 5, none⟩ v5).setCell ⟨b, 6, none⟩ v6).setCell ⟨b, 7, none⟩ v7).setCell ⟨b, 8, none⟩ v8) b #[v0, v1, v2, v3, v4, v5, v6, v7, v8] := by
  rw [← nine a0 a1 a2 a3 a4 a5 a6 a7 a8 v0 v1 v2 v3 v4 v5 v6 v7 v8]
  exact ((((((((h.set 0 v0 (by simp)).set 1 v1 (by simp)).set 2 v2 (by simp)).set 3 v3 (by simp)).set 4 v4 (by simp)).set 5 v5 (by simp)).set 6 v6 (by simp)).set 7 v7 (by simp)).set 8 v8 (by simp)
/-- A block that was made behind may be written too. -/
theorem keeps_more {a b' c : World} {b g g1 : Nat} (h : Keeps a b' [b, g]) (k : Keeps b' c [b, g1]) (hg : g1 ∈ [b, g] ∨ a.heap.size ≤ g1) : Keeps a c [b, g] :=
  ⟨k.os.trans h.os, k.tape.trans h.tape, k.output.trans h.output, Nat.le_trans h.size k.size, fun i hi hn => by
    rw [k.block i (Nat.lt_of_lt_of_le hi h.size) (fun e => by
      simp at e hn
      rcases e with e | e
      · exact hn.1 e
      · rcases hg with hg | hg
        · simp at hg; omega
        · omega)]
    exact h.block i hi hn⟩
theorem Box.off' {w : World} {b : Nat} {ca : Array Value} (h : Box w b ca) {a : Addr} (ha : b ≠ a.block) (v : Value) : Box (w.setCell a v) b ca :=
  h.keeps ((Keeps.refl w [a.block]).setCell (by simp) v) (by simpa using ha)
theorem keepsS {w w1 : World} {b g : Nat} (h : Keeps w w1 [b, g]) (v0 v1 v2 v3 v4 v5 v6 v7 v8 : Value) :
    Keeps w (((((((((w1.setCell ⟨b, 3, none⟩ v0).setCell ⟨b, 4, none⟩ v1).setCell ⟨b, 5, none⟩ v2).setCell ⟨b, 6, none⟩ v3).setCell ⟨b, 7, none⟩ v4).setCell ⟨b, 8, none⟩ v5).setCell ⟨b, 9, none⟩ v6).setCell ⟨b, 10, none⟩ v7).setCell ⟨b, 11, none⟩ v8) [b, g] := by
  repeat (refine Keeps.setCell ?_ (by simp) _)
  exact h

end Go.Proofs.YtcmoffiigpchiaaGreat
