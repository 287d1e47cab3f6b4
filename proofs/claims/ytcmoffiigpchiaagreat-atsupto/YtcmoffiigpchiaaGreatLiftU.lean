import Derived.Test.YtcmoffiigpchiaaGreatLift
namespace Go.Proofs.YtcmoffiigpchiaaGreat
open Go.ChangeShapes Go.WideShapes Go.ChangeAt Go.RowKit
open Go.ChangeMaps (open_string shut_string)

/-- A part is no greater than the whole. -/
theorem bulk_mem {H : Type} {d : DataW H} : ∀ {l : List (DataW H)}, d ∈ l → Rows.uptoBulk d ≤ Rows.uptoBulkAll l := by
  intro l
  induction l with
  | nil => intro h; cases h
  | cons a r ih =>
    intro h
    simp only [Rows.uptoBulkAll]
    rcases List.mem_cons.1 h with h | h
    · subst h; omega
    · have := ih h; omega
/-- What a step's texts may be. -/
structure OpV.Small (o : OpV) : Prop where
  b : o.b.size ≤ 1048576
  p : o.p.size ≤ 1048576

section
variable {H : Type} {enc : TypeId × Value → H} {w : World} {base : Nat} {spare : Nat → Bool} {held : Bool}

theorem field_at {fs : Array Field} {t : TypeId} {cs : List Value} {xs : List (DataW H × List MemPlace)} {n : Nat} (hl : xs.length = fs.size)
    (h : ∀ (i : Nat) (f : Field), fs[i]? = some f → DataW.trod enc Tryz.prog w base spare held n f.type ((cs.drop f.offset).take (Tryz.prog.cellsOf f.type)) = xs[i]?)
    (i : Nat) (f : Field) (hf : fs[i]? = some f) (o : Nat) (ho : f.offset = o) (ht : f.type = t) (m : Nat) (hm : Tryz.prog.cellsOf t = m) :
    ∃ y, xs[i]? = some y ∧ DataW.trod enc Tryz.prog w base spare held n t ((cs.drop o).take m) = some y := by
  have hi : i < xs.length := by
    rw [hl]
    exact (Array.getElem?_eq_some_iff.1 hf).1
  have e := h i f hf
  rw [List.getElem?_eq_getElem hi, ho, ht, hm] at e
  exact ⟨_, List.getElem?_eq_getElem hi, e⟩
theorem text_bulk {fuel : Nat} {s : ByteArray} {y : DataW H × List MemPlace} (h : DataW.trod enc Tryz.prog w base spare held fuel 9 [.string s] = some y) : s.size ≤ Rows.uptoBulk y.1 := by
  obtain ⟨s', e, rfl, _⟩ := DataW.trod_string Tryz.underlying9 h
  simp at e
  subst e
  simp only [Rows.uptoBulk]
  have : s.data.toList.length = s.size := by rw [Array.length_toList]; rfl
  omega
theorem op_bulk {fuel : Nat} {o : OpV} {x : DataW H × List MemPlace} (h : DataW.trod enc Tryz.prog w base spare held fuel 34 o.cells = some x) : o.b.size ≤ Rows.uptoBulk x.1 ∧ o.p.size ≤ Rows.uptoBulk x.1 := by
  obtain ⟨xs, n, rfl, rfl, hl, hx, hf⟩ := DataW.trod_struct Tryz.underlying34 h
  have hm : ∀ y : DataW H × List MemPlace, y ∈ xs → Rows.uptoBulk y.1 ≤ Rows.uptoBulk (DataW.agg (xs.map (·.1))) := fun y hy => by
    have := bulk_mem (List.mem_map_of_mem (f := fun z : DataW H × List MemPlace => z.1) hy)
    simp only [Rows.uptoBulk]
    omega
  obtain ⟨y2, f2, h2⟩ := field_at hx hf 2 _ rfl 2 rfl rfl 1 cellsString
  obtain ⟨y3, f3, h3⟩ := field_at hx hf 3 _ rfl 3 rfl rfl 1 cellsString
  have t2 := text_bulk (s := o.p) h2
  have t3 := text_bulk (s := o.b) h3
  have m2 := hm y2 (List.mem_of_getElem? f2)
  have m3 := hm y3 (List.mem_of_getElem? f3)
  exact ⟨Nat.le_trans t3 m3, Nat.le_trans t2 m2⟩

/-- A SCRIPT THAT CAME IN, of no great bulk. -/
theorem open_small {fuel : Nat} {a : Option Addr} {len cap : Nat} {x : DataW H × List MemPlace} (h : DataW.trod enc Tryz.prog w base spare held fuel 22 [.slice a len cap] = some x) (hk : Rows.uptoBulk x.1 ≤ 1048576) :
    ∃ O, IsScript w a len O ∧ ∀ i, i < len → (O i).Small := by
  haveI : Inhabited OpV := ⟨⟨0, 0, ByteArray.empty, ByteArray.empty, ⟨0, 0, ByteArray.empty, ByteArray.empty, 0, 0, 0, false, false⟩, ⟨0, 0, false⟩, 0, 0⟩⟩
  rcases Deep.open_slice Tryz.underlying22 h with ⟨hcs, _⟩ | ⟨a', len', cap', m, n, D, Pl, hcs, hb, hl, hm, hmm, hxx, hx⟩
  · simp at hcs
    exact ⟨fun _ => default, .inl hcs.2.1, fun i hi => by omega⟩
  · simp at hcs
    obtain ⟨rfl, rfl, rfl⟩ := hcs
    by_cases h0 : len = 0
    · exact ⟨fun _ => default, .inl h0, fun i hi => by omega⟩
    · have hlm : len ≤ m := by rw [hmm]; split <;> omega
      rw [cellsOp] at hx
      rw [hxx] at hk
      simp only [Rows.uptoBulk] at hk
      obtain ⟨b, off, spot⟩ := a'
      have hspot : spot = none := by
        obtain ⟨cs, h1, h2⟩ := hx 0 (by omega)
        obtain ⟨_, h3, h4⟩ := World.cells?_some h1
        have h5 := h4 0 (by omega)
        rw [List.getElem?_eq_getElem (by omega)] at h5
        simpa [Addr.add] using World.cell?_spot h5
      subst hspot
      obtain ⟨O, hO⟩ := Deep.choose_lt (α := OpV) (p := fun i o => w.rangeAt b (off + i * 18) o.cells ∧ o.Ok ∧ b < w.heap.size ∧ o.Small) (n := len) (fun i hi => by
        obtain ⟨cs, h1, h2⟩ := hx i (by omega)
        obtain ⟨_, h3, h4⟩ := World.cells?_some h1
        obtain ⟨o, rfl, ho⟩ := open_op h2
        have hr : w.rangeAt b (off + i * 18) o.cells := fun j v hv => by
          have hj : j < 18 := by
            have := (List.getElem?_eq_some_iff.1 hv).1
            simpa [OpV.cells] using this
          have := h4 j hj
          rw [Addr.add_mid, Addr.add_mid] at this
          rw [this, hv]
        have hD := bulk_mem (List.mem_map_of_mem (f := D) (List.mem_range.2 hi))
        obtain ⟨u1, u2⟩ := op_bulk h2
        simp only at u1 u2
        refine ⟨o, hr, ho, ?_, ⟨by omega, by omega⟩⟩
        exact World.block_lt_of_cell? w _ (hr 0 _ rfl))
      exact ⟨O, .inr ⟨by unfold maxLen at hm; omega, b, off, rfl, ⟨(hO 0 (by omega)).2.2.1, fun i hi => (hO i hi).1⟩, fun i hi => (hO i hi).2.1⟩, fun i hi => (hO i hi).2.2.2⟩
end

/-- A script of no great bulk is played: the world keeps no machine. -/
theorem plays_small (lo hi : Int) (w : World) (a : Option Addr) (len cap : Nat) (O : Nat → OpV) (hS : IsScript w a len O) (hB : ∀ i, i < len → (O i).Small)
    (hstep : ∀ o p wr, OpV.Ok o → o.Small → lo ≤ o.kind → o.kind ≤ hi → Calls Tryz.prog 11 #[p, o.val] wr fun e w' => e = .returned (.bool true) ∧ Below wr.heap.size wr w') :
    Calls Tryz.prog 10 #[.slice a len cap, .int .i64 lo, .int .i64 hi] w fun e w' => e = .returned (.bool true) ∧ Below w.heap.size w w' := by
  rcases hS with rfl | ⟨hl, blk, off, rfl, hS, hO⟩
  · exact plays_none lo hi w a cap (fun wr h => by subst h; exact ends_none _ _ (by simp))
  · refine plays_any lo hi w blk off len cap O (fun wr => wr.cell? ⟨w.heap.size, 0, none⟩ = some (.slice none 0 0)) hS hl (by simp) ?_ (fun wr h _ => ends_none _ wr h)
    intro i wr hi' h1 h2 hI hz
    refine (hstep (O i) _ wr (hO i hi') (hB i hi') h1 h2).mono ?_
    rintro e w' ⟨rfl, hb⟩
    exact ⟨rfl, by rw [hb.cell (p := ⟨w.heap.size, 0, none⟩) hz]; exact hI, hb.mono (Nat.le_of_lt hz)⟩
end Go.Proofs.YtcmoffiigpchiaaGreat
