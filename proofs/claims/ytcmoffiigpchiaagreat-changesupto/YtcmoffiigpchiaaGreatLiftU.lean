import Derived.Test.YtcmoffiigpchiaaGreatBoxW
import Derived.ProofKit
import Derived.OpenShut
import Derived.ShutString
import Derived.ChangeOld
import Derived.Deep.Slices
namespace Go.Proofs.YtcmoffiigpchiaaGreat
open Go.ChangeShapes Go.WideShapes Go.ChangeAt Go.RowKit
open Go.ChangeMaps (open_string shut_string)

theorem own : ownKnob Tryz.prog.godebug = none := by kernel_rfl
theorem laidOut : laidOutB Tryz.prog = true := by kernel_rfl
theorem cellsInt : Tryz.prog.cellsOf 3 = 1 := by kernel_rfl
theorem cellsBool : Tryz.prog.cellsOf 4 = 1 := by kernel_rfl
theorem cellsString : Tryz.prog.cellsOf 9 = 1 := by kernel_rfl
theorem cellsState : Tryz.prog.cellsOf 30 = 9 := by kernel_rfl
theorem cellsChoice : Tryz.prog.cellsOf 32 = 3 := by kernel_rfl
theorem cellsOp : Tryz.prog.cellsOf 34 = 18 := by kernel_rfl

section
variable {H : Type} {enc : TypeId × Value → H} {w : World} {base : Nat} {spare : Nat → Bool} {held : Bool}

theorem ok_of_wf {n : Int} (h : (Lit.int .i64 n).wf = true) : i64ok n := by
  simp [Lit.wf, IntKind.min, IntKind.max, IntKind.signed, IntKind.bits] at h
  exact ⟨by omega, by omega⟩

theorem field_of {fs : Array Field} {t : TypeId} {cs : List Value} {xs : List (DataW H × List MemPlace)} {n : Nat} (hl : xs.length = fs.size)
    (h : ∀ (i : Nat) (f : Field), fs[i]? = some f → DataW.trod enc Tryz.prog w base spare held n f.type ((cs.drop f.offset).take (Tryz.prog.cellsOf f.type)) = xs[i]?)
    (i : Nat) (f : Field) (hf : fs[i]? = some f) (o : Nat) (ho : f.offset = o) (ht : f.type = t) (m : Nat) (hm : Tryz.prog.cellsOf t = m) :
    ∃ y, DataW.trod enc Tryz.prog w base spare held n t ((cs.drop o).take m) = some y := by
  have hi : i < xs.length := by
    rw [hl]
    exact (Array.getElem?_eq_some_iff.1 hf).1
  have e := h i f hf
  rw [List.getElem?_eq_getElem hi, ho, ht, hm] at e
  exact ⟨_, e⟩

theorem int_field {n o : Nat} {cs : List Value} (h : ∃ y, DataW.trod enc Tryz.prog w base spare held n 3 ((cs.drop o).take 1) = some y) : ∃ a : Int, (cs.drop o).take 1 = [.int .i64 a] ∧ i64ok a := by
  obtain ⟨y, h⟩ := h
  obtain ⟨a, ha, _, hw⟩ := DataW.trod_int Tryz.underlying3 h
  exact ⟨a, ha, ok_of_wf hw⟩
theorem bool_field {n o : Nat} {cs : List Value} (h : ∃ y, DataW.trod enc Tryz.prog w base spare held n 4 ((cs.drop o).take 1) = some y) : ∃ a : Bool, (cs.drop o).take 1 = [.bool a] := by
  obtain ⟨y, h⟩ := h
  obtain ⟨a, ha, _⟩ := DataW.trod_bool Tryz.underlying4 h
  exact ⟨a, ha⟩
theorem string_field {n o : Nat} {cs : List Value} (h : ∃ y, DataW.trod enc Tryz.prog w base spare held n 9 ((cs.drop o).take 1) = some y) : ∃ a : ByteArray, (cs.drop o).take 1 = [.string a] ∧ a.size ≤ maxLen := by
  obtain ⟨y, h⟩ := h
  obtain ⟨a, ha, _, hs⟩ := DataW.trod_string Tryz.underlying9 h
  exact ⟨a, ha, hs⟩

theorem open_state {fuel : Nat} {cs : List Value} (h : ∃ x, DataW.trod enc Tryz.prog w base spare held fuel 30 cs = some x) :
    ∃ s : StV, cs = [.int .i64 s.n, .int .i64 s.pc, .string s.regs, .string s.cells, .int .i64 s.clock, .int .i64 s.handler, .int .i64 s.back, .bool s.pending, .bool s.halted] ∧ s.Ok := by
  obtain ⟨x, h⟩ := h
  obtain ⟨xs, n, rfl, -, hl, hx, hf⟩ := DataW.trod_struct Tryz.underlying30 h
  rw [cellsState] at hl
  obtain ⟨a0, e0, k0⟩ := int_field (field_of hx hf 0 _ rfl 0 rfl rfl 1 cellsInt)
  obtain ⟨a1, e1, k1⟩ := int_field (field_of hx hf 1 _ rfl 1 rfl rfl 1 cellsInt)
  obtain ⟨a2, e2, k2⟩ := string_field (field_of hx hf 2 _ rfl 2 rfl rfl 1 cellsString)
  obtain ⟨a3, e3, k3⟩ := string_field (field_of hx hf 3 _ rfl 3 rfl rfl 1 cellsString)
  obtain ⟨a4, e4, k4⟩ := int_field (field_of hx hf 4 _ rfl 4 rfl rfl 1 cellsInt)
  obtain ⟨a5, e5, k5⟩ := int_field (field_of hx hf 5 _ rfl 5 rfl rfl 1 cellsInt)
  obtain ⟨a6, e6, k6⟩ := int_field (field_of hx hf 6 _ rfl 6 rfl rfl 1 cellsInt)
  obtain ⟨a7, e7⟩ := bool_field (field_of hx hf 7 _ rfl 7 rfl rfl 1 cellsBool)
  obtain ⟨a8, e8⟩ := bool_field (field_of hx hf 8 _ rfl 8 rfl rfl 1 cellsBool)
  clear hf hx h
  match cs, hl with
  | [v0, v1, v2, v3, v4, v5, v6, v7, v8], _ =>
    simp at e0 e1 e2 e3 e4 e5 e6 e7 e8
    subst e0 e1 e2 e3 e4 e5 e6 e7 e8
    exact ⟨⟨a0, a1, a2, a3, a4, a5, a6, a7, a8⟩, rfl, ⟨k0, k1, k2, k3, k4, k5, k6⟩⟩

theorem open_choice {fuel : Nat} {cs : List Value} (h : ∃ x, DataW.trod enc Tryz.prog w base spare held fuel 32 cs = some x) :
    ∃ c : ChV, cs = [.int .i64 c.input, .int .i64 c.ticks, .bool c.interrupt] ∧ c.Ok := by
  obtain ⟨x, h⟩ := h
  obtain ⟨xs, n, rfl, -, hl, hx, hf⟩ := DataW.trod_struct Tryz.underlying32 h
  rw [cellsChoice] at hl
  obtain ⟨a0, e0, k0⟩ := int_field (field_of hx hf 0 _ rfl 0 rfl rfl 1 cellsInt)
  obtain ⟨a1, e1, k1⟩ := int_field (field_of hx hf 1 _ rfl 1 rfl rfl 1 cellsInt)
  obtain ⟨a2, e2⟩ := bool_field (field_of hx hf 2 _ rfl 2 rfl rfl 1 cellsBool)
  clear hf hx h
  match cs, hl with
  | [v0, v1, v2], _ =>
    simp at e0 e1 e2
    subst e0 e1 e2
    exact ⟨⟨a0, a1, a2⟩, rfl, ⟨k0, k1⟩⟩

theorem open_op {fuel : Nat} {cs : List Value} {x : DataW H × List MemPlace} (h : DataW.trod enc Tryz.prog w base spare held fuel 34 cs = some x) : ∃ o : OpV, cs = o.cells ∧ o.Ok := by
  obtain ⟨xs, n, rfl, -, hl, hx, hf⟩ := DataW.trod_struct Tryz.underlying34 h
  rw [cellsOp] at hl
  obtain ⟨a0, e0, k0⟩ := int_field (field_of hx hf 0 _ rfl 0 rfl rfl 1 cellsInt)
  obtain ⟨a1, e1, k1⟩ := int_field (field_of hx hf 1 _ rfl 1 rfl rfl 1 cellsInt)
  obtain ⟨a2, e2, k2⟩ := string_field (field_of hx hf 2 _ rfl 2 rfl rfl 1 cellsString)
  obtain ⟨a3, e3, k3⟩ := string_field (field_of hx hf 3 _ rfl 3 rfl rfl 1 cellsString)
  obtain ⟨s, e4, k4⟩ := open_state (field_of hx hf 4 _ rfl 4 rfl rfl 9 cellsState)
  obtain ⟨c, e5, k5⟩ := open_choice (field_of hx hf 5 _ rfl 13 rfl rfl 3 cellsChoice)
  obtain ⟨a6, e6, k6⟩ := int_field (field_of hx hf 6 _ rfl 16 rfl rfl 1 cellsInt)
  obtain ⟨a7, e7, k7⟩ := int_field (field_of hx hf 7 _ rfl 17 rfl rfl 1 cellsInt)
  clear hf hx h
  match cs, hl with
  | [v0, v1, v2, v3, v4, v5, v6, v7, v8, v9, v10, v11, v12, v13, v14, v15, v16, v17], _ =>
    simp at e0 e1 e2 e3 e4 e5 e6 e7
    obtain ⟨q0, q1, q2, q3, q4, q5, q6, q7, q8⟩ := e4
    obtain ⟨r0, r1, r2⟩ := e5
    subst e0 e1 e2 e3 q0 q1 q2 q3 q4 q5 q6 q7 q8 r0 r1 r2 e6 e7
    exact ⟨⟨a0, a1, a2, a3, s, c, a6, a7⟩, rfl, ⟨k0, k1, k2, k3, k4, k5, k6, k7⟩⟩

/-- A SCRIPT THAT CAME IN. -/
theorem open_script {fuel : Nat} {a : Option Addr} {len cap : Nat} {x : DataW H × List MemPlace} (h : DataW.trod enc Tryz.prog w base spare held fuel 22 [.slice a len cap] = some x) :
    ∃ O, IsScript w a len O := by
  haveI : Inhabited OpV := ⟨⟨0, 0, ByteArray.empty, ByteArray.empty, ⟨0, 0, ByteArray.empty, ByteArray.empty, 0, 0, 0, false, false⟩, ⟨0, 0, false⟩, 0, 0⟩⟩
  rcases Deep.open_slice Tryz.underlying22 h with ⟨hcs, _⟩ | ⟨a', len', cap', m, n, D, Pl, hcs, hb, hl, hm, hmm, _, hx⟩
  · simp at hcs
    exact ⟨fun _ => default, .inl hcs.2.1⟩
  · simp at hcs
    obtain ⟨rfl, rfl, rfl⟩ := hcs
    by_cases h0 : len = 0
    · exact ⟨fun _ => default, .inl h0⟩
    · have hlm : len ≤ m := by rw [hmm]; split <;> omega
      rw [cellsOp] at hx
      obtain ⟨b, off, spot⟩ := a'
      have hspot : spot = none := by
        obtain ⟨cs, h1, h2⟩ := hx 0 (by omega)
        obtain ⟨_, h3, h4⟩ := World.cells?_some h1
        have h5 := h4 0 (by omega)
        rw [List.getElem?_eq_getElem (by omega)] at h5
        simpa [Addr.add] using World.cell?_spot h5
      subst hspot
      obtain ⟨O, hO⟩ := Deep.choose_lt (α := OpV) (p := fun i o => w.rangeAt b (off + i * 18) o.cells ∧ o.Ok ∧ b < w.heap.size) (n := len) (fun i hi => by
        obtain ⟨cs, h1, h2⟩ := hx i (by omega)
        obtain ⟨_, h3, h4⟩ := World.cells?_some h1
        obtain ⟨o, rfl, ho⟩ := open_op h2
        have hr : w.rangeAt b (off + i * 18) o.cells := fun j v hv => by
          have hj : j < 18 := by
            have := (List.getElem?_eq_some_iff.1 hv).1
            simpa [OpV.cells] using this
          have := h4 j hj
          rw [Addr.add_mid, Addr.add_mid] at this
          rw [this, hv]
        refine ⟨o, hr, ho, ?_⟩
        exact World.block_lt_of_cell? w _ (hr 0 _ rfl))
      refine ⟨O, .inr ⟨by unfold maxLen at hm; omega, b, off, rfl, ⟨(hO 0 (by omega)).2.2, fun i hi => (hO i hi).1⟩, fun i hi => (hO i hi).2.1⟩⟩
end
end Go.Proofs.YtcmoffiigpchiaaGreat

namespace Go.Proofs.YtcmoffiigpchiaaGreat
open Go.ChangeShapes Go.WideShapes Go.ChangeAt Go.RowKit
open Go.ChangeMaps (open_string shut_string)

/-- A part is no greater than the whole. -/
theorem bulk_mem {H : Type} {d : DataW H} : ∀ {l : List (DataW H)}, d ∈ l → Rows.uptoBulk d ≤ Rows.uptoBulkAll l := by
  intro l
  induction l with
  | nil => intro h; cases h
  | cons a r ih =>
    intro h
    simp only [Rows.uptoBulkAll]
    rcases List.mem_cons.1 h with h | h
    · subst h; omega
    · have := ih h; omega
/-- What a step's texts may be. -/
structure OpV.Small (o : OpV) : Prop where
  b : o.b.size ≤ 1048576
  p : o.p.size ≤ 1048576

section
variable {H : Type} {enc : TypeId × Value → H} {w : World} {base : Nat} {spare : Nat → Bool} {held : Bool}

theorem field_at {fs : Array Field} {t : TypeId} {cs : List Value} {xs : List (DataW H × List MemPlace)} {n : Nat} (hl : xs.length = fs.size)
    (h : ∀ (i : Nat) (f : Field), fs[i]? = some f → DataW.trod enc Tryz.prog w base spare held n f.type ((cs.drop f.offset).take (Tryz.prog.cellsOf f.type)) = xs[i]?)
    (i : Nat) (f : Field) (hf : fs[i]? = some f) (o : Nat) (ho : f.offset = o) (ht : f.type = t) (m : Nat) (hm : Tryz.prog.cellsOf t = m) :
    ∃ y, xs[i]? = some y ∧ DataW.trod enc Tryz.prog w base spare held n t ((cs.drop o).take m) = some y := by
  have hi : i < xs.length := by
    rw [hl]
    exact (Array.getElem?_eq_some_iff.1 hf).1
  have e := h i f hf
  rw [List.getElem?_eq_getElem hi, ho, ht, hm] at e
  exact ⟨_, List.getElem?_eq_getElem hi, e⟩
theorem text_bulk {fuel : Nat} {s : ByteArray} {y : DataW H × List MemPlace} (h : DataW.trod enc Tryz.prog w base spare held fuel 9 [.string s] = some y) : s.size ≤ Rows.uptoBulk y.1 := by
  obtain ⟨s', e, rfl, _⟩ := DataW.trod_string Tryz.underlying9 h
  simp at e
  subst e
  simp only [Rows.uptoBulk]
  have : s.data.toList.length = s.size := by rw [Array.length_toList]; rfl
  omega
theorem op_bulk {fuel : Nat} {o : OpV} {x : DataW H × List MemPlace} (h : DataW.trod enc Tryz.prog w base spare held fuel 34 o.cells = some x) : o.b.size ≤ Rows.uptoBulk x.1 ∧ o.p.size ≤ Rows.uptoBulk x.1 := by
  obtain ⟨xs, n, rfl, rfl, hl, hx, hf⟩ := DataW.trod_struct Tryz.underlying34 h
  have hm : ∀ y : DataW H × List MemPlace, y ∈ xs → Rows.uptoBulk y.1 ≤ Rows.uptoBulk (DataW.agg (xs.map (·.1))) := fun y hy => by
    have := bulk_mem (List.mem_map_of_mem (f := fun z : DataW H × List MemPlace => z.1) hy)
    simp only [Rows.uptoBulk]
    omega
  obtain ⟨y2, f2, h2⟩ := field_at hx hf 2 _ rfl 2 rfl rfl 1 cellsString
  obtain ⟨y3, f3, h3⟩ := field_at hx hf 3 _ rfl 3 rfl rfl 1 cellsString
  have t2 := text_bulk (s := o.p) h2
  have t3 := text_bulk (s := o.b) h3
  have m2 := hm y2 (List.mem_of_getElem? f2)
  have m3 := hm y3 (List.mem_of_getElem? f3)
  exact ⟨Nat.le_trans t3 m3, Nat.le_trans t2 m2⟩

/-- A SCRIPT THAT CAME IN, of no great bulk. -/
theorem open_small {fuel : Nat} {a : Option Addr} {len cap : Nat} {x : DataW H × List MemPlace} (h : DataW.trod enc Tryz.prog w base spare held fuel 22 [.slice a len cap] = some x) (hk : Rows.uptoBulk x.1 ≤ 1048576) :
    ∃ O, IsScript w a len O ∧ ∀ i, i < len → (O i).Small := by
  haveI : Inhabited OpV := ⟨⟨0, 0, ByteArray.empty, ByteArray.empty, ⟨0, 0, ByteArray.empty, ByteArray.empty, 0, 0, 0, false, false⟩, ⟨0, 0, false⟩, 0, 0⟩⟩
  rcases Deep.open_slice Tryz.underlying22 h with ⟨hcs, _⟩ | ⟨a', len', cap', m, n, D, Pl, hcs, hb, hl, hm, hmm, hxx, hx⟩
  · simp at hcs
    exact ⟨fun _ => default, .inl hcs.2.1, fun i hi => by omega⟩
  · simp at hcs
    obtain ⟨rfl, rfl, rfl⟩ := hcs
    by_cases h0 : len = 0
    · exact ⟨fun _ => default, .inl h0, fun i hi => by omega⟩
    · have hlm : len ≤ m := by rw [hmm]; split <;> omega
      rw [cellsOp] at hx
      rw [hxx] at hk
      simp only [Rows.uptoBulk] at hk
      obtain ⟨b, off, spot⟩ := a'
      have hspot : spot = none := by
        obtain ⟨cs, h1, h2⟩ := hx 0 (by omega)
        obtain ⟨_, h3, h4⟩ := World.cells?_some h1
        have h5 := h4 0 (by omega)
        rw [List.getElem?_eq_getElem (by omega)] at h5
        simpa [Addr.add] using World.cell?_spot h5
      subst hspot
      obtain ⟨O, hO⟩ := Deep.choose_lt (α := OpV) (p := fun i o => w.rangeAt b (off + i * 18) o.cells ∧ o.Ok ∧ b < w.heap.size ∧ o.Small) (n := len) (fun i hi => by
        obtain ⟨cs, h1, h2⟩ := hx i (by omega)
        obtain ⟨_, h3, h4⟩ := World.cells?_some h1
        obtain ⟨o, rfl, ho⟩ := open_op h2
        have hr : w.rangeAt b (off + i * 18) o.cells := fun j v hv => by
          have hj : j < 18 := by
            have := (List.getElem?_eq_some_iff.1 hv).1
            simpa [OpV.cells] using this
          have := h4 j hj
          rw [Addr.add_mid, Addr.add_mid] at this
          rw [this, hv]
        have hD := bulk_mem (List.mem_map_of_mem (f := D) (List.mem_range.2 hi))
        obtain ⟨u1, u2⟩ := op_bulk h2
        simp only at u1 u2
        refine ⟨o, hr, ho, ?_, ⟨by omega, by omega⟩⟩
        exact World.block_lt_of_cell? w _ (hr 0 _ rfl))
      exact ⟨O, .inr ⟨by unfold maxLen at hm; omega, b, off, rfl, ⟨(hO 0 (by omega)).2.2.1, fun i hi => (hO i hi).1⟩, fun i hi => (hO i hi).2.1⟩, fun i hi => (hO i hi).2.2.2⟩
end

/-- A script of no great bulk is played: the world keeps no machine. -/
theorem plays_small (lo hi : Int) (w : World) (a : Option Addr) (len cap : Nat) (O : Nat → OpV) (hS : IsScript w a len O) (hB : ∀ i, i < len → (O i).Small)
    (hstep : ∀ o p wr, OpV.Ok o → o.Small → lo ≤ o.kind → o.kind ≤ hi → Calls Tryz.prog 11 #[p, o.val] wr fun e w' => e = .returned (.bool true) ∧ Below wr.heap.size wr w') :
    Calls Tryz.prog 10 #[.slice a len cap, .int .i64 lo, .int .i64 hi] w fun e w' => e = .returned (.bool true) ∧ Below w.heap.size w w' := by
  rcases hS with rfl | ⟨hl, blk, off, rfl, hS, hO⟩
  · exact plays_none lo hi w a cap (fun wr h => by subst h; exact ends_none _ _ (by simp))
  · refine plays_any lo hi w blk off len cap O (fun wr => wr.cell? ⟨w.heap.size, 0, none⟩ = some (.slice none 0 0)) hS hl (by simp) ?_ (fun wr h _ => ends_none _ wr h)
    intro i wr hi' h1 h2 hI hz
    refine (hstep (O i) _ wr (hO i hi') (hB i hi') h1 h2).mono ?_
    rintro e w' ⟨rfl, hb⟩
    exact ⟨rfl, by rw [hb.cell (p := ⟨w.heap.size, 0, none⟩) hz]; exact hI, hb.mono (Nat.le_of_lt hz)⟩
end Go.Proofs.YtcmoffiigpchiaaGreat

namespace Go.Proofs.YtcmoffiigpchiaaGreat
open Go.RowKit

set_option maxHeartbeats 400000 in
/-- A script is played, the steps counted. -/
theorem plays_num (lo hi : Int) (w : World) (blk off len cap : Nat) (O : Nat → OpV) (I : Nat → World → Prop)
    (hS : Script w blk off len O) (hlen : len ≤ 9223372036854775807)
    (hstart : I 0 (w.alloc (.cells #[.slice none 0 0] 28)))
    (hmono : ∀ k wr, I k wr → I (k + 1) wr)
    (hstep : ∀ i wr, i < len → lo ≤ (O i).kind → (O i).kind ≤ hi → I i wr → w.heap.size < wr.heap.size → Calls Tryz.prog 11 #[.pointer (some ⟨w.heap.size, 0, none⟩), (O i).val] wr fun e w' => e = .returned (.bool true) ∧ I (i + 1) w' ∧ Below w.heap.size wr w')
    (hends : ∀ wr, I len wr → w.heap.size < wr.heap.size → Calls Tryz.prog 12 #[.pointer (some ⟨w.heap.size, 0, none⟩)] wr fun e w' => e = .returned (.bool true) ∧ Below w.heap.size wr w') :
    Calls Tryz.prog 10 #[.slice (some ⟨blk, off, none⟩) len cap, .int .i64 lo, .int .i64 hi] w fun e w' => e = .returned (.bool true) ∧ Below w.heap.size w w' := by
  have HS := hide hS
  have H1 := hide hstep
  have H2 := hide hends
  have HM := hide hmono
  clear hS hstep hends hmono
  go_enter Tryz.func10, Tryz.ntmps10
  go_wp2
  go_loopw [8] (fun i wr => ∃ k : Nat, k ≤ len ∧ i = .int .i64 k ∧ I k wr ∧ w.heap.size < wr.heap.size ∧ Below w.heap.size w wr) (fun i _ => len - (intOf i).toNat)
  case atStart => exact ⟨0, Nat.zero_le _, rfl, hstart, by simp, (Below.refl _ _).alloc (Nat.le_refl _) _⟩
  case round =>
    obtain ⟨k, hk, rfl, hI0, hz, hb⟩ := hrel
    have hI := hide hI0
    clear hI0
    by_cases hlt : k < len
    · have hc := rangeAt_below hb (unhide HS).lt ((unhide HS).lies k hlt)
      have hc0 : wr.cell? ⟨blk, off + k * 18, none⟩ = some (.int .i64 (O k).kind) := hc 0 _ rfl
      have HC := hide hc
      have H3 := hide hb
      clear hb hc
      by_cases hlo : lo ≤ (O k).kind
      · by_cases hhi : (O k).kind ≤ hi
        · go_wp2_with (first | (refine wpList_load_mid rfl 34 _ rfl blk (off + k * 18) rfl (O k).cells _ (unhide HC) Tryz.underlying34 rfl (by kernel_rfl) ?_) | (go_at_call 11; refine (unhide H1 k wr hlt hlo hhi (unhide hI) hz).mono ?_; rintro e w' ⟨rfl, hI', hb'⟩))
          go_roundw
          case rel => exact ⟨k + 1, by omega, by go_num, hI', Nat.lt_of_lt_of_le hz hb'.size, (unhide H3).trans hb'⟩
          case measure => simp [intOf]; omega
        · go_wp2
          go_roundw
          case rel => exact ⟨k + 1, by omega, by go_num, unhide HM k wr (unhide hI), hz, unhide H3⟩
          case measure => simp [intOf]; omega
      · go_wp2
        go_roundw
        case rel => exact ⟨k + 1, by omega, by go_num, unhide HM k wr (unhide hI), hz, unhide H3⟩
        case measure => simp [intOf]; omega
    · have hkl : k = len := by omega
      subst hkl
      go_wp2_with (go_at_call 12; refine (unhide H2 wr (unhide hI) hz).mono ?_; rintro e w' ⟨rfl, hb'⟩)
      go_ret
      exact ⟨rfl, hb.trans hb'⟩

theorem plays_nums (lo hi : Int) (w : World) (a : Option Addr) (len cap : Nat) (O : Nat → OpV) (I : Nat → World → Prop)
    (hS : IsScript w a len O)
    (hstart : I 0 (w.alloc (.cells #[.slice none 0 0] 28)))
    (hmono : ∀ k wr, I k wr → I (k + 1) wr)
    (hstep : ∀ k o wr, k < len → OpV.Ok o → lo ≤ o.kind → o.kind ≤ hi → I k wr → Calls Tryz.prog 11 #[.pointer (some ⟨w.heap.size, 0, none⟩), o.val] wr fun e w' => e = .returned (.bool true) ∧ I (k + 1) w' ∧ Below w.heap.size wr w')
    (hends : ∀ wr, I len wr → Calls Tryz.prog 12 #[.pointer (some ⟨w.heap.size, 0, none⟩)] wr fun e w' => e = .returned (.bool true) ∧ Below w.heap.size wr w') :
    Calls Tryz.prog 10 #[.slice a len cap, .int .i64 lo, .int .i64 hi] w fun e w' => e = .returned (.bool true) ∧ Below w.heap.size w w' := by
  rcases hS with rfl | ⟨hl, blk, off, rfl, hS, hO⟩
  · exact plays_none lo hi w a cap (fun wr h => by subst h; exact hends _ hstart)
  · exact plays_num lo hi w blk off len cap O I hS hl hstart hmono (fun i wr hi' h1 h2 hI _ => hstep i (O i) wr hi' (hO i hi') h1 h2 hI) (fun wr hI _ => hends wr hI)
end Go.Proofs.YtcmoffiigpchiaaGreat
