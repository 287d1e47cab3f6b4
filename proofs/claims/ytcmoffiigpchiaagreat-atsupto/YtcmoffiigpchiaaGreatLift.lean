import Derived.Test.YtcmoffiigpchiaaGreatPlays
import Derived.ProofKit
import Derived.OpenShut
import Derived.ShutString
import Derived.ChangeOld
import Derived.Deep.Slices
namespace Go.Proofs.YtcmoffiigpchiaaGreat
open Go.ChangeShapes Go.WideShapes Go.ChangeAt Go.RowKit
open Go.ChangeMaps (open_string shut_string)

theorem own : ownKnob Tryz.prog.godebug = none := by kernel_rfl
theorem laidOut : laidOutB Tryz.prog = true := by kernel_rfl
theorem cellsInt : Tryz.prog.cellsOf 3 = 1 := by kernel_rfl
theorem cellsBool : Tryz.prog.cellsOf 4 = 1 := by kernel_rfl
theorem cellsString : Tryz.prog.cellsOf 9 = 1 := by kernel_rfl
theorem cellsState : Tryz.prog.cellsOf 30 = 9 := by kernel_rfl
theorem cellsChoice : Tryz.prog.cellsOf 32 = 3 := by kernel_rfl
theorem cellsOp : Tryz.prog.cellsOf 34 = 18 := by kernel_rfl

section
variable {H : Type} {enc : TypeId × Value → H} {w : World} {base : Nat} {spare : Nat → Bool} {held : Bool}

theorem ok_of_wf {n : Int} (h : (Lit.int .i64 n).wf = true) : i64ok n := by
  simp [Lit.wf, IntKind.min, IntKind.max, IntKind.signed, IntKind.bits] at h
  exact ⟨by omega, by omega⟩

theorem field_of {fs : Array Field} {t : TypeId} {cs : List Value} {xs : List (DataW H × List MemPlace)} {n : Nat} (hl : xs.length = fs.size)
    (h : ∀ (i : Nat) (f : Field), fs[i]? = some f → DataW.trod enc Tryz.prog w base spare held n f.type ((cs.drop f.offset).take (Tryz.prog.cellsOf f.type)) = xs[i]?)
    (i : Nat) (f : Field) (hf : fs[i]? = some f) (o : Nat) (ho : f.offset = o) (ht : f.type = t) (m : Nat) (hm : Tryz.prog.cellsOf t = m) :
    ∃ y, DataW.trod enc Tryz.prog w base spare held n t ((cs.drop o).take m) = some y := by
  have hi : i < xs.length := by
    rw [hl]
    exact (Array.getElem?_eq_some_iff.1 hf).1
  have e := h i f hf
  rw [List.getElem?_eq_getElem hi, ho, ht, hm] at e
  exact ⟨_, e⟩

theorem int_field {n o : Nat} {cs : List Value} (h : ∃ y, DataW.trod enc Tryz.prog w base spare held n 3 ((cs.drop o).take 1) = some y) : ∃ a : Int, (cs.drop o).take 1 = [.int .i64 a] ∧ i64ok a := by
  obtain ⟨y, h⟩ := h
  obtain ⟨a, ha, _, hw⟩ := DataW.trod_int Tryz.underlying3 h
  exact ⟨a, ha, ok_of_wf hw⟩
theorem bool_field {n o : Nat} {cs : List Value} (h : ∃ y, DataW.trod enc Tryz.prog w base spare held n 4 ((cs.drop o).take 1) = some y) : ∃ a : Bool, (cs.drop o).take 1 = [.bool a] := by
  obtain ⟨y, h⟩ := h
  obtain ⟨a, ha, _⟩ := DataW.trod_bool Tryz.underlying4 h
  exact ⟨a, ha⟩
theorem string_field {n o : Nat} {cs : List Value} (h : ∃ y, DataW.trod enc Tryz.prog w base spare held n 9 ((cs.drop o).take 1) = some y) : ∃ a : ByteArray, (cs.drop o).take 1 = [.string a] ∧ a.size ≤ maxLen := by
  obtain ⟨y, h⟩ := h
  obtain ⟨a, ha, _, hs⟩ := DataW.trod_string Tryz.underlying9 h
  exact ⟨a, ha, hs⟩

theorem open_state {fuel : Nat} {cs : List Value} (h : ∃ x, DataW.trod enc Tryz.prog w base spare held fuel 30 cs = some x) :
    ∃ s : StV, cs = [.int .i64 s.n, .int .i64 s.pc, .string s.regs, .string s.cells, .int .i64 s.clock, .int .i64 s.handler, .int .i64 s.back, .bool s.pending, .bool s.halted] ∧ s.Ok := by
  obtain ⟨x, h⟩ := h
  obtain ⟨xs, n, rfl, -, hl, hx, hf⟩ := DataW.trod_struct Tryz.underlying30 h
  rw [cellsState] at hl
  obtain ⟨a0, e0, k0⟩ := int_field (field_of hx hf 0 _ rfl 0 rfl rfl 1 cellsInt)
  obtain ⟨a1, e1, k1⟩ := int_field (field_of hx hf 1 _ rfl 1 rfl rfl 1 cellsInt)
  obtain ⟨a2, e2, k2⟩ := string_field (field_of hx hf 2 _ rfl 2 rfl rfl 1 cellsString)
  obtain ⟨a3, e3, k3⟩ := string_field (field_of hx hf 3 _ rfl 3 rfl rfl 1 cellsString)
  obtain ⟨a4, e4, k4⟩ := int_field (field_of hx hf 4 _ rfl 4 rfl rfl 1 cellsInt)
  obtain ⟨a5, e5, k5⟩ := int_field (field_of hx hf 5 _ rfl 5 rfl rfl 1 cellsInt)
  obtain ⟨a6, e6, k6⟩ := int_field (field_of hx hf 6 _ rfl 6 rfl rfl 1 cellsInt)
  obtain ⟨a7, e7⟩ := bool_field (field_of hx hf 7 _ rfl 7 rfl rfl 1 cellsBool)
  obtain ⟨a8, e8⟩ := bool_field (field_of hx hf 8 _ rfl 8 rfl rfl 1 cellsBool)
  clear hf hx h
  match cs, hl with
  | [v0, v1, v2, v3, v4, v5, v6, v7, v8], _ =>
    simp at e0 e1 e2 e3 e4 e5 e6 e7 e8
    subst e0 e1 e2 e3 e4 e5 e6 e7 e8
    exact ⟨⟨a0, a1, a2, a3, a4, a5, a6, a7, a8⟩, rfl, ⟨k0, k1, k2, k3, k4, k5, k6⟩⟩

theorem open_choice {fuel : Nat} {cs : List Value} (h : ∃ x, DataW.trod enc Tryz.prog w base spare held fuel 32 cs = some x) :
    ∃ c : ChV, cs = [.int .i64 c.input, .int .i64 c.ticks, .bool c.interrupt] ∧ c.Ok := by
  obtain ⟨x, h⟩ := h
  obtain ⟨xs, n, rfl, -, hl, hx, hf⟩ := DataW.trod_struct Tryz.underlying32 h
  rw [cellsChoice] at hl
  obtain ⟨a0, e0, k0⟩ := int_field (field_of hx hf 0 _ rfl 0 rfl rfl 1 cellsInt)
  obtain ⟨a1, e1, k1⟩ := int_field (field_of hx hf 1 _ rfl 1 rfl rfl 1 cellsInt)
  obtain ⟨a2, e2⟩ := bool_field (field_of hx hf 2 _ rfl 2 rfl rfl 1 cellsBool)
  clear hf hx h
  match cs, hl with
  | [v0, v1, v2], _ =>
    simp at e0 e1 e2
    subst e0 e1 e2
    exact ⟨⟨a0, a1, a2⟩, rfl, ⟨k0, k1⟩⟩

theorem open_op {fuel : Nat} {cs : List Value} {x : DataW H × List MemPlace} (h : DataW.trod enc Tryz.prog w base spare held fuel 34 cs = some x) : ∃ o : OpV, cs = o.cells ∧ o.Ok := by
  obtain ⟨xs, n, rfl, -, hl, hx, hf⟩ := DataW.trod_struct Tryz.underlying34 h
  rw [cellsOp] at hl
  obtain ⟨a0, e0, k0⟩ := int_field (field_of hx hf 0 _ rfl 0 rfl rfl 1 cellsInt)
  obtain ⟨a1, e1, k1⟩ := int_field (field_of hx hf 1 _ rfl 1 rfl rfl 1 cellsInt)
  obtain ⟨a2, e2, k2⟩ := string_field (field_of hx hf 2 _ rfl 2 rfl rfl 1 cellsString)
  obtain ⟨a3, e3, k3⟩ := string_field (field_of hx hf 3 _ rfl 3 rfl rfl 1 cellsString)
  obtain ⟨s, e4, k4⟩ := open_state (field_of hx hf 4 _ rfl 4 rfl rfl 9 cellsState)
  obtain ⟨c, e5, k5⟩ := open_choice (field_of hx hf 5 _ rfl 13 rfl rfl 3 cellsChoice)
  obtain ⟨a6, e6, k6⟩ := int_field (field_of hx hf 6 _ rfl 16 rfl rfl 1 cellsInt)
  obtain ⟨a7, e7, k7⟩ := int_field (field_of hx hf 7 _ rfl 17 rfl rfl 1 cellsInt)
  clear hf hx h
  match cs, hl with
  | [v0, v1, v2, v3, v4, v5, v6, v7, v8, v9, v10, v11, v12, v13, v14, v15, v16, v17], _ =>
    simp at e0 e1 e2 e3 e4 e5 e6 e7
    obtain ⟨q0, q1, q2, q3, q4, q5, q6, q7, q8⟩ := e4
    obtain ⟨r0, r1, r2⟩ := e5
    subst e0 e1 e2 e3 q0 q1 q2 q3 q4 q5 q6 q7 q8 r0 r1 r2 e6 e7
    exact ⟨⟨a0, a1, a2, a3, s, c, a6, a7⟩, rfl, ⟨k0, k1, k2, k3, k4, k5, k6, k7⟩⟩

/-- A SCRIPT THAT CAME IN. -/
theorem open_script {fuel : Nat} {a : Option Addr} {len cap : Nat} {x : DataW H × List MemPlace} (h : DataW.trod enc Tryz.prog w base spare held fuel 22 [.slice a len cap] = some x) :
    ∃ O, IsScript w a len O := by
  haveI : Inhabited OpV := ⟨⟨0, 0, ByteArray.empty, ByteArray.empty, ⟨0, 0, ByteArray.empty, ByteArray.empty, 0, 0, 0, false, false⟩, ⟨0, 0, false⟩, 0, 0⟩⟩
  rcases Deep.open_slice Tryz.underlying22 h with ⟨hcs, _⟩ | ⟨a', len', cap', m, n, D, Pl, hcs, hb, hl, hm, hmm, _, hx⟩
  · simp at hcs
    exact ⟨fun _ => default, .inl hcs.2.1⟩
  · simp at hcs
    obtain ⟨rfl, rfl, rfl⟩ := hcs
    by_cases h0 : len = 0
    · exact ⟨fun _ => default, .inl h0⟩
    · have hlm : len ≤ m := by rw [hmm]; split <;> omega
      rw [cellsOp] at hx
      obtain ⟨b, off, spot⟩ := a'
      have hspot : spot = none := by
        obtain ⟨cs, h1, h2⟩ := hx 0 (by omega)
        obtain ⟨_, h3, h4⟩ := World.cells?_some h1
        have h5 := h4 0 (by omega)
        rw [List.getElem?_eq_getElem (by omega)] at h5
        simpa [Addr.add] using World.cell?_spot h5
      subst hspot
      obtain ⟨O, hO⟩ := Deep.choose_lt (α := OpV) (p := fun i o => w.rangeAt b (off + i * 18) o.cells ∧ o.Ok ∧ b < w.heap.size) (n := len) (fun i hi => by
        obtain ⟨cs, h1, h2⟩ := hx i (by omega)
        obtain ⟨_, h3, h4⟩ := World.cells?_some h1
        obtain ⟨o, rfl, ho⟩ := open_op h2
        have hr : w.rangeAt b (off + i * 18) o.cells := fun j v hv => by
          have hj : j < 18 := by
            have := (List.getElem?_eq_some_iff.1 hv).1
            simpa [OpV.cells] using this
          have := h4 j hj
          rw [Addr.add_mid, Addr.add_mid] at this
          rw [this, hv]
        refine ⟨o, hr, ho, ?_⟩
        exact World.block_lt_of_cell? w _ (hr 0 _ rfl))
      refine ⟨O, .inr ⟨by unfold maxLen at hm; omega, b, off, rfl, ⟨(hO 0 (by omega)).2.2, fun i hi => (hO i hi).1⟩, fun i hi => (hO i hi).2.1⟩⟩
end
end Go.Proofs.YtcmoffiigpchiaaGreat
