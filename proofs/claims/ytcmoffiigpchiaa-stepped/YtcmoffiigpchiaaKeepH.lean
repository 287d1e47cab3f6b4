import Derived.Test.YtcmoffiigpchiaaKeepG
import Derived.Deep.RegionLaw
import Derived.Deep.AppendLies
import Derived.Deep.CutRange
namespace Go.Proofs.Ytcmoffiigpchiaa
open Go.RowKit
namespace Keep

theorem FilmAt.keeps {w w' : World} {B fb xb r cap : Nat} {p : ByteArray} {m : RM} {l : List StV} {sv : Int} {o : List Nat} (h : FilmAt w B fb xb r cap p m l sv) (k : Keeps w w' o) (h1 : fb ∉ o) (h2 : xb ∉ o) (h3 : r ∉ o) : FilmAt w' B fb xb r cap p m l sv := by
  refine ⟨h.box.keeps k h1, h.code.keeps k h2, ?_, h.inv, h.pm, h.n1, h.n2, h.n3, h.gf, h.gx⟩
  have hlt := (h.row.lt r rfl).2
  obtain ⟨hl, hv⟩ := h.row
  refine ⟨hl, ?_⟩
  rcases hv with hv | ⟨g, cap', cur, hv, h0, hg, a1, a2, a3, a4⟩
  · exact .inl hv
  · simp at hv
    obtain ⟨rfl, rfl⟩ := hv
    exact .inr ⟨r, cap, cur, rfl, h0, by rw [k.block r hlt h3]; exact hg, a1, a2, a3, a4⟩
theorem FilmAt.next {w w' : World} {B fb xb r cap : Nat} {p : ByteArray} {m : RM} {l : List StV} {sv : Int} (h : FilmAt w B fb xb r cap p m l sv) (k : Below w.heap.size w w') : FilmAt w' B fb xb r cap p m l sv := h.keeps (keeps_of k []) (by simp) (by simp) (by simp)
theorem FilmAt.saved {w : World} {B fb xb r cap : Nat} {p : ByteArray} {m : RM} {l : List StV} {sv : Int} (h : FilmAt w B fb xb r cap p m l sv) (x : Int) : FilmAt (w.setCell ⟨fb, 3, none⟩ (.int .i64 x)) B fb xb r cap p m l x := by
  have k : Keeps w (w.setCell ⟨fb, 3, none⟩ (.int .i64 x)) [fb] := (Keeps.refl w [fb]).setCell (by simp) _
  have n1 := h.n1
  have n2 := h.n2
  refine ⟨?_, h.code.keeps k (by simp; omega), ?_, h.inv, h.pm, h.n1, h.n2, h.n3, h.gf, h.gx⟩
  · have := h.box.set 3 (.int .i64 x) (by simp)
    simpa using this
  · have hlt := (h.row.lt r rfl).2
    obtain ⟨hl, hv⟩ := h.row
    refine ⟨hl, ?_⟩
    rcases hv with hv | ⟨g, cap', cur, hv, h0, hg, a1, a2, a3, a4⟩
    · exact .inl hv
    · simp at hv
      obtain ⟨rfl, rfl⟩ := hv
      exact .inr ⟨r, cap, cur, rfl, h0, by rw [k.block r hlt (by simp; omega)]; exact hg, a1, a2, a3, a4⟩
/-- The machine of a film has gone on. -/
theorem FilmAt.gone {w w' : World} {B fb xb r cap : Nat} {p : ByteArray} {m m' : RM} {l : List StV} {sv : Int} (h : FilmAt w B fb xb r cap p m l sv) (c : Box w' xb m'.ccells) (k : Keeps w w' [xb]) (hi : m'.Inv) (hp : m'.p = p) : FilmAt w' B fb xb r cap p m' l sv := by
  have n1 := h.n1
  have n3 := h.n3
  refine ⟨h.box.keeps k (by simpa using n1), c, ?_, hi, hp, h.n1, h.n2, h.n3, h.gf, h.gx⟩
  have hlt := (h.row.lt r rfl).2
  obtain ⟨hl, hv⟩ := h.row
  refine ⟨hl, ?_⟩
  rcases hv with hv | ⟨g, cap', cur, hv, h0, hg, a1, a2, a3, a4⟩
  · exact .inl hv
  · simp at hv
    obtain ⟨rfl, rfl⟩ := hv
    exact .inr ⟨r, cap, cur, rfl, h0, by rw [k.block r hlt (by simp; omega)]; exact hg, a1, a2, a3, a4⟩
theorem rowS_length (l : List StV) : (rowS l).length = 9 * l.length := by
  induction l with
  | nil => rfl
  | cons s r ih =>
    show (stC s ++ rowS r).length = _
    rw [List.length_append, ih]
    simp [stC]
    omega
theorem rowS_snoc (l : List StV) (s : StV) : rowS (l ++ [s]) = rowS l ++ stC s := by simp [rowS]
/-- The last state lies where it is looked for. -/
theorem FilmAt.last {w : World} {B fb xb r cap : Nat} {p : ByteArray} {m : RM} {l : List StV} {sv : Int} (h : FilmAt w B fb xb r cap p m l sv) (hl : 0 < l.length) : w.rangeAt r ((l.length - 1) * 9) (stC (lastOf l)) := by
  have e : rowS l = rowS l.dropLast ++ stC (lastOf l) := by
    have h1 : l = l.dropLast ++ [lastOf l] := by
      have hne : l ≠ [] := by intro e; rw [e] at hl; simp at hl
      have : lastOf l = l.getLast hne := by
        unfold lastOf
        rw [List.getLastD_eq_getLast?, List.getLast?_eq_some_getLast hne]
        rfl
      rw [this]
      exact (List.dropLast_concat_getLast hne).symm
    rw [← rowS_snoc, ← h1]
  intro j v hv
  have hjl := (List.getElem?_eq_some_iff.1 hv).1
  have hd : (rowS l.dropLast).length = (l.length - 1) * 9 := by rw [rowS_length, List.length_dropLast]; omega
  have := h.row.cells (g := r) rfl ((l.length - 1) * 9 + j) v (by
    rw [e, List.getElem?_append_right (by omega), hd]
    simpa using hv)
  rw [Addr.add_mid, Nat.zero_add] at this
  exact this

/-- What a walk of a film leaves. -/
def Went (R Q : Int) (w w' : World) (B fb xb r : Nat) (p : ByteArray) (V : Nat → Int) (n i : Nat) : Prop :=
  ∃ m r' cap' l sv, FilmAt w' B fb xb r' cap' p m l sv ∧ Runs R Q p V n i m l sv ∧ (r' = r ∨ w.heap.size ≤ r') ∧ Keeps w w' [fb, xb, r] ∧ 0 ≤ sv ∧ sv ≤ i
end Keep
end Go.Proofs.Ytcmoffiigpchiaa
