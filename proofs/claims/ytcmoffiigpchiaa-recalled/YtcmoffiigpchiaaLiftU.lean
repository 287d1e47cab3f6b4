import Derived.Test.YtcmoffiigpchiaaBoxW
import Derived.ProofKit
import Derived.OpenShut
import Derived.ShutString
import Derived.ChangeOld
import Derived.Deep.Slices
namespace Go.Proofs.Ytcmoffiigpchiaa
open Go.ChangeShapes Go.WideShapes Go.ChangeAt Go.RowKit
open Go.ChangeMaps (open_string shut_string)

theorem own : ownKnob Try.prog.godebug = none := by kernel_rfl
theorem laidOut : laidOutB Try.prog = true := by kernel_rfl
theorem cellsInt : Try.prog.cellsOf 3 = 1 := by kernel_rfl
theorem cellsBool : Try.prog.cellsOf 4 = 1 := by kernel_rfl
theorem cellsString : Try.prog.cellsOf 9 = 1 := by kernel_rfl
theorem cellsState : Try.prog.cellsOf 42 = 9 := by kernel_rfl
theorem cellsChoice : Try.prog.cellsOf 56 = 3 := by kernel_rfl
section
variable {H : Type} {enc : TypeId × Value → H} {w : World} {base : Nat} {spare : Nat → Bool} {held : Bool}

theorem ok_of_wf {n : Int} (h : (Lit.int .i64 n).wf = true) : i64ok n := by
  simp [Lit.wf, IntKind.min, IntKind.max, IntKind.signed, IntKind.bits] at h
  exact ⟨by omega, by omega⟩

theorem field_of {fs : Array Field} {t : TypeId} {cs : List Value} {xs : List (DataW H × List MemPlace)} {n : Nat} (hl : xs.length = fs.size)
    (h : ∀ (i : Nat) (f : Field), fs[i]? = some f → DataW.trod enc Try.prog w base spare held n f.type ((cs.drop f.offset).take (Try.prog.cellsOf f.type)) = xs[i]?)
    (i : Nat) (f : Field) (hf : fs[i]? = some f) (o : Nat) (ho : f.offset = o) (ht : f.type = t) (m : Nat) (hm : Try.prog.cellsOf t = m) :
    ∃ y, DataW.trod enc Try.prog w base spare held n t ((cs.drop o).take m) = some y := by
  have hi : i < xs.length := by
    rw [hl]
    exact (Array.getElem?_eq_some_iff.1 hf).1
  have e := h i f hf
  rw [List.getElem?_eq_getElem hi, ho, ht, hm] at e
  exact ⟨_, e⟩

theorem int_field {n o : Nat} {cs : List Value} (h : ∃ y, DataW.trod enc Try.prog w base spare held n 3 ((cs.drop o).take 1) = some y) : ∃ a : Int, (cs.drop o).take 1 = [.int .i64 a] ∧ i64ok a := by
  obtain ⟨y, h⟩ := h
  obtain ⟨a, ha, _, hw⟩ := DataW.trod_int Try.underlying3 h
  exact ⟨a, ha, ok_of_wf hw⟩
theorem bool_field {n o : Nat} {cs : List Value} (h : ∃ y, DataW.trod enc Try.prog w base spare held n 4 ((cs.drop o).take 1) = some y) : ∃ a : Bool, (cs.drop o).take 1 = [.bool a] := by
  obtain ⟨y, h⟩ := h
  obtain ⟨a, ha, _⟩ := DataW.trod_bool Try.underlying4 h
  exact ⟨a, ha⟩
theorem string_field {n o : Nat} {cs : List Value} (h : ∃ y, DataW.trod enc Try.prog w base spare held n 9 ((cs.drop o).take 1) = some y) : ∃ a : ByteArray, (cs.drop o).take 1 = [.string a] ∧ a.size ≤ maxLen := by
  obtain ⟨y, h⟩ := h
  obtain ⟨a, ha, _, hs⟩ := DataW.trod_string Try.underlying9 h
  exact ⟨a, ha, hs⟩

theorem open_state {fuel : Nat} {cs : List Value} (h : ∃ x, DataW.trod enc Try.prog w base spare held fuel 42 cs = some x) :
    ∃ s : StV, cs = [.int .i64 s.n, .int .i64 s.pc, .string s.regs, .string s.cells, .int .i64 s.clock, .int .i64 s.handler, .int .i64 s.back, .bool s.pending, .bool s.halted] ∧ s.Ok := by
  obtain ⟨x, h⟩ := h
  obtain ⟨xs, n, rfl, -, hl, hx, hf⟩ := DataW.trod_struct Try.underlying42 h
  rw [cellsState] at hl
  obtain ⟨a0, e0, k0⟩ := int_field (field_of hx hf 0 _ rfl 0 rfl rfl 1 cellsInt)
  obtain ⟨a1, e1, k1⟩ := int_field (field_of hx hf 1 _ rfl 1 rfl rfl 1 cellsInt)
  obtain ⟨a2, e2, k2⟩ := string_field (field_of hx hf 2 _ rfl 2 rfl rfl 1 cellsString)
  obtain ⟨a3, e3, k3⟩ := string_field (field_of hx hf 3 _ rfl 3 rfl rfl 1 cellsString)
  obtain ⟨a4, e4, k4⟩ := int_field (field_of hx hf 4 _ rfl 4 rfl rfl 1 cellsInt)
  obtain ⟨a5, e5, k5⟩ := int_field (field_of hx hf 5 _ rfl 5 rfl rfl 1 cellsInt)
  obtain ⟨a6, e6, k6⟩ := int_field (field_of hx hf 6 _ rfl 6 rfl rfl 1 cellsInt)
  obtain ⟨a7, e7⟩ := bool_field (field_of hx hf 7 _ rfl 7 rfl rfl 1 cellsBool)
  obtain ⟨a8, e8⟩ := bool_field (field_of hx hf 8 _ rfl 8 rfl rfl 1 cellsBool)
  clear hf hx h
  match cs, hl with
  | [v0, v1, v2, v3, v4, v5, v6, v7, v8], _ =>
    simp at e0 e1 e2 e3 e4 e5 e6 e7 e8
    subst e0 e1 e2 e3 e4 e5 e6 e7 e8
    exact ⟨⟨a0, a1, a2, a3, a4, a5, a6, a7, a8⟩, rfl, ⟨k0, k1, k2, k3, k4, k5, k6⟩⟩

theorem open_choice {fuel : Nat} {cs : List Value} (h : ∃ x, DataW.trod enc Try.prog w base spare held fuel 56 cs = some x) :
    ∃ c : ChV, cs = [.int .i64 c.input, .int .i64 c.ticks, .bool c.interrupt] ∧ c.Ok := by
  obtain ⟨x, h⟩ := h
  obtain ⟨xs, n, rfl, -, hl, hx, hf⟩ := DataW.trod_struct Try.underlying56 h
  rw [cellsChoice] at hl
  obtain ⟨a0, e0, k0⟩ := int_field (field_of hx hf 0 _ rfl 0 rfl rfl 1 cellsInt)
  obtain ⟨a1, e1, k1⟩ := int_field (field_of hx hf 1 _ rfl 1 rfl rfl 1 cellsInt)
  obtain ⟨a2, e2⟩ := bool_field (field_of hx hf 2 _ rfl 2 rfl rfl 1 cellsBool)
  clear hf hx h
  match cs, hl with
  | [v0, v1, v2], _ =>
    simp at e0 e1 e2
    subst e0 e1 e2
    exact ⟨⟨a0, a1, a2⟩, rfl, ⟨k0, k1⟩⟩

end
end Go.Proofs.Ytcmoffiigpchiaa

namespace Go.Proofs.Ytcmoffiigpchiaa
open Go.ChangeShapes Go.WideShapes Go.ChangeAt Go.RowKit
open Go.ChangeMaps (open_string shut_string)

/-- A part is no greater than the whole. -/
theorem bulk_mem {H : Type} {d : DataW H} : ∀ {l : List (DataW H)}, d ∈ l → Rows.uptoBulk d ≤ Rows.uptoBulkAll l := by
  intro l
  induction l with
  | nil => intro h; cases h
  | cons a r ih =>
    intro h
    simp only [Rows.uptoBulkAll]
    rcases List.mem_cons.1 h with h | h
    · subst h; omega
    · have := ih h; omega
/-- What a step's texts may be. -/
structure OpV.Small (o : OpV) : Prop where
  b : o.b.size ≤ 1048576
  p : o.p.size ≤ 1048576

section
variable {H : Type} {enc : TypeId × Value → H} {w : World} {base : Nat} {spare : Nat → Bool} {held : Bool}

theorem field_at {fs : Array Field} {t : TypeId} {cs : List Value} {xs : List (DataW H × List MemPlace)} {n : Nat} (hl : xs.length = fs.size)
    (h : ∀ (i : Nat) (f : Field), fs[i]? = some f → DataW.trod enc Try.prog w base spare held n f.type ((cs.drop f.offset).take (Try.prog.cellsOf f.type)) = xs[i]?)
    (i : Nat) (f : Field) (hf : fs[i]? = some f) (o : Nat) (ho : f.offset = o) (ht : f.type = t) (m : Nat) (hm : Try.prog.cellsOf t = m) :
    ∃ y, xs[i]? = some y ∧ DataW.trod enc Try.prog w base spare held n t ((cs.drop o).take m) = some y := by
  have hi : i < xs.length := by
    rw [hl]
    exact (Array.getElem?_eq_some_iff.1 hf).1
  have e := h i f hf
  rw [List.getElem?_eq_getElem hi, ho, ht, hm] at e
  exact ⟨_, List.getElem?_eq_getElem hi, e⟩
theorem text_bulk {fuel : Nat} {s : ByteArray} {y : DataW H × List MemPlace} (h : DataW.trod enc Try.prog w base spare held fuel 9 [.string s] = some y) : s.size ≤ Rows.uptoBulk y.1 := by
  obtain ⟨s', e, rfl, _⟩ := DataW.trod_string Try.underlying9 h
  simp at e
  subst e
  simp only [Rows.uptoBulk]
  have : s.data.toList.length = s.size := by rw [Array.length_toList]; rfl
  omega
end

end Go.Proofs.Ytcmoffiigpchiaa

namespace Go.Proofs.Ytcmoffiigpchiaa
open Go.RowKit

end Go.Proofs.Ytcmoffiigpchiaa
