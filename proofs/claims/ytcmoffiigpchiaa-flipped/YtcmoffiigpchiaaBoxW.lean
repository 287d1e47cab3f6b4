import Derived.Test.YtcmoffiigpchiaaBase
import Derived.Deep.MidRow
import Derived.Laws.AppendOwn
namespace Go.Proofs.Ytcmoffiigpchiaa
open Go.RowKit

theorem bel_alloc {w w' : World} {o : Obj} (h : Below (w.alloc o).heap.size (w.alloc o) w') : Below w.heap.size w w' :=
  ((Below.refl _ _).alloc (Nat.le_refl _) o).trans (h.mono (by simp))

/-- A script, as it lies. -/
structure Script (w : World) (blk off len : Nat) (O : Nat → OpV) : Prop where
  lt : blk < w.heap.size
  lies : ∀ i, i < len → w.rangeAt blk (off + i * 18) (O i).cells

theorem rangeAt_below {B : Nat} {w w' : World} (h : Below B w w') {b o : Nat} {cs : List Value} (hb : b < B) (hc : w.rangeAt b o cs) : w'.rangeAt b o cs :=
  fun j v hv => by rw [h.cell (p := ⟨b, o + j, none⟩) hb]; exact hc j v hv

/-- A SCRIPT THAT CAME IN: of no step, or a row of steps. -/
def IsScript (w : World) (a : Option Addr) (len : Nat) (O : Nat → OpV) : Prop :=
  len = 0 ∨ (len ≤ 9223372036854775807 ∧ ∃ blk off, a = some ⟨blk, off, none⟩ ∧ Script w blk off len O ∧ ∀ i, i < len → (O i).Ok)

end Go.Proofs.Ytcmoffiigpchiaa

namespace Go.Proofs.Ytcmoffiigpchiaa
open Go.RowKit

/-- A BOX, as a world holds it. -/
structure Box (w : World) (b : Nat) (ca : Array Value) : Prop where
  c : ∀ o, w.cell? ⟨b, o, none⟩ = ca[o]?
  f : ∀ o, w.frozen? ⟨b, o, none⟩ = false
  lt : b < w.heap.size
theorem Box.new (w : World) (ca : Array Value) (t : TypeId) : Box (w.alloc (.cells ca t)) w.heap.size ca :=
  ⟨fun o => by go_simp, fun o => by go_simp, by simp⟩
theorem Box.next {w w1 : World} {b : Nat} {ca : Array Value} (h : Box w b ca) (hb : Below w.heap.size w w1) : Box w1 b ca :=
  ⟨fun o => by rw [hb.cell (p := ⟨b, o, none⟩) h.lt]; exact h.c o, fun o => by rw [hb.frozen (p := ⟨b, o, none⟩) h.lt]; exact h.f o, Nat.lt_of_lt_of_le h.lt hb.size⟩
theorem Box.alloc {w : World} {b : Nat} {ca : Array Value} (h : Box w b ca) (o : Obj) : Box (w.alloc o) b ca := h.next ((Below.refl _ _).alloc (Nat.le_refl _) o)

theorem Box.drew {w : World} {b : Nat} {ca : Array Value} (h : Box w b ca) : Box w.drew b ca := ⟨h.c, h.f, h.lt⟩

theorem bel_undrew {a w : World} (h : Below a.drew.heap.size a.drew w) : Below a.heap.size a w := ⟨h.os, h.tape, h.output, h.size, h.block⟩
theorem bel_then {a b c : World} (h : Below a.heap.size a b) (k : Below b.heap.size b c) : Below a.heap.size a c := h.trans (k.mono h.size)

/-- All but some blocks are as they were. -/
structure Keeps (w w' : World) (own : List Nat) : Prop where
  os : w'.os = w.os
  tape : w'.tape = w.tape
  output : w'.output = w.output
  size : w.heap.size ≤ w'.heap.size
  block : ∀ k, k < w.heap.size → k ∉ own → w'.heap[k]? = w.heap[k]?

theorem Keeps.refl (w : World) (own : List Nat) : Keeps w w own := ⟨rfl, rfl, rfl, Nat.le_refl _, fun _ _ _ => rfl⟩
theorem Keeps.drewN {w w' : World} {own : List Nat} (h : Keeps w w' own) (n : Nat) : Keeps w (w'.drewN n) own := ⟨h.os, h.tape, h.output, h.size, h.block⟩
theorem Keeps.setCell {w w' : World} {own : List Nat} (h : Keeps w w' own) {a : Addr} (ha : a.block ∈ own) (u : Value) : Keeps w (w'.setCell a u) own :=
  ⟨h.os, h.tape, h.output, by simpa using h.size, fun k hk hn => by rw [Below.heap_setCell w' a u k (fun e => hn (e ▸ ha))]; exact h.block k hk hn⟩

theorem Box.set {w : World} {b : Nat} {ca : Array Value} (h : Box w b ca) (i : Nat) (v : Value) (hi : i < ca.size) : Box (w.setCell ⟨b, i, none⟩ v) b (ca.setIfInBounds i v) := by
  refine ⟨fun o => ?_, fun o => ?_, by simpa using h.lt⟩
  · by_cases e : i = o
    · subst e
      rw [World.cell?_setCell_same _ _ _ (h.c i ▸ Array.getElem?_eq_getElem hi)]
      simp [hi]
    · rw [World.cell?_setCell_other _ _ _ _ (by simp; try omega), h.c o]
      simp [e]
  · go_simp; exact h.f o
theorem Box.drewN {w : World} {b : Nat} {ca : Array Value} (h : Box w b ca) (n : Nat) : Box (w.drewN n) b ca := ⟨h.c, h.f, h.lt⟩
theorem Keeps.trans {a b c : World} {o : List Nat} (h : Keeps a b o) (k : Keeps b c o) : Keeps a c o :=
  ⟨k.os.trans h.os, k.tape.trans h.tape, k.output.trans h.output, Nat.le_trans h.size k.size, fun i hi hn => (k.block i (Nat.lt_of_lt_of_le hi h.size) hn).trans (h.block i hi hn)⟩
theorem Keeps.mono {a b : World} {o o' : List Nat} (h : Keeps a b o) (ho : ∀ k ∈ o, k ∈ o') : Keeps a b o' :=
  ⟨h.os, h.tape, h.output, h.size, fun i hi hn => h.block i hi (fun e => hn (ho i e))⟩
theorem keeps_of {a b : World} (h : Below a.heap.size a b) (o : List Nat) : Keeps a b o := ⟨h.os, h.tape, h.output, h.size, fun k hk _ => h.block k hk⟩
theorem grown_keeps {a b : World} {g : Nat} (h : a.grownBy b (some g)) {o : List Nat} (hg : g ∈ o) : Keeps a b o :=
  ⟨h.os, h.tape, h.output, h.size, fun k hk hn => h.block k hk (fun e => hn (by cases e; exact hg))⟩
theorem Box.keeps {w w' : World} {b : Nat} {ca : Array Value} {o : List Nat} (h : Box w b ca) (k : Keeps w w' o) (hb : b ∉ o) : Box w' b ca :=
  ⟨fun i => by rw [World.cell?_of_block (w := w) (k.block b h.lt hb)]; exact h.c i, fun i => by rw [World.frozen?_of_block (w := w) (k.block b h.lt hb)]; exact h.f i, Nat.lt_of_lt_of_le h.lt k.size⟩
theorem Keeps.alloc {w w' : World} {o : List Nat} (h : Keeps w w' o) (X : Obj) : Keeps w (w'.alloc X) o :=
  h.trans (keeps_of ((Below.refl _ _).alloc (Nat.le_refl _) X) _)


end Go.Proofs.Ytcmoffiigpchiaa

namespace Go.Proofs.Ytcmoffiigpchiaa
open Go.RowKit

theorem putR_arr (a0 a1 a2 a3 a4 a5 a6 a7 a8 v0 v1 v2 v3 v4 v5 v6 v7 v8 : Value) : (((((((((#[a0, a1, a2, a3, a4, a5, a6, a7, a8].setIfInBounds 0 v0).setIfInBounds 1 v1).setIfInBounds 2 v2).setIfInBounds 3 v3).setIfInBounds 4 v4).setIfInBounds 5 v5).setIfInBounds 6 v6).setIfInBounds 7 v7).setIfInBounds 8 v8) = #[v0, v1, v2, v3, v4, v5, v6, v7, v8] := by simp
theorem nine_boxR {w : World} {b : Nat} {a0 a1 a2 a3 a4 a5 a6 a7 a8 : Value} (h : Box w b #[a0, a1, a2, a3, a4, a5, a6, a7, a8]) (v0 v1 v2 v3 v4 v5 v6 v7 v8 : Value) :
    Box (((((((((w.setCell ⟨b, 0, none⟩ v0).setCell ⟨b, 1, none⟩ v1).setCell ⟨b, 2, none⟩ v2).setCell ⟨b, 3, none⟩ v3).setCell ⟨b, 4, none⟩ v4).setCell ⟨b, 5, none⟩ v5).setCell ⟨b, 6, none⟩ v6).setCell ⟨b, 7, none⟩ v7).setCell ⟨b, 8, none⟩ v8) b #[v0, v1, v2, v3, v4, v5, v6, v7, v8] := by
  rw [← putR_arr a0 a1 a2 a3 a4 a5 a6 a7 a8 v0 v1 v2 v3 v4 v5 v6 v7 v8]
  exact (((((((((h.set 0 v0 (by simp)).set 1 v1 (by simp)).set 2 v2 (by simp)).set 3 v3 (by simp)).set 4 v4 (by simp)).set 5 v5 (by simp)).set 6 v6 (by simp)).set 7 v7 (by simp)).set 8 v8 (by simp))
theorem bel_drewN {k : Nat} {w w1 : World} (h : Below k w w1) (n : Nat) : Below k w (w1.drewN n) := ⟨h.os, h.tape, h.output, h.size, h.block⟩
theorem three_arr (a0 a1 a2 v0 v1 v2 : Value) : (((#[a0, a1, a2].setIfInBounds 0 v0).setIfInBounds 1 v1).setIfInBounds 2 v2) = #[v0, v1, v2] := by simp
theorem Box.put3 {w : World} {b : Nat} {a0 a1 a2 : Value} (h : Box w b #[a0, a1, a2]) (v0 v1 v2 : Value) :
    Box (((w.setCell ⟨b, 0, none⟩ v0).setCell ⟨b, 1, none⟩ v1).setCell ⟨b, 2, none⟩ v2) b #[v0, v1, v2] := by
  rw [← three_arr a0 a1 a2 v0 v1 v2]
  exact ((h.set 0 v0 (by simp)).set 1 v1 (by simp)).set 2 v2 (by simp)
end Go.Proofs.Ytcmoffiigpchiaa
