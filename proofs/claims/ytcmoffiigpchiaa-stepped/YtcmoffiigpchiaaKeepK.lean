import Derived.Test.YtcmoffiigpchiaaLiftU
import Derived.Test.YtcmoffiigpchiaaKeepJ
import Derived.SizedLaws
namespace Go.Proofs.Ytcmoffiigpchiaa
open Go.ChangeShapes Go.WideShapes Go.ChangeAt Go.RowKit
open Go.ChangeMaps (open_string shut_string)
namespace Keep

theorem runs_new {p : ByteArray} {V : Nat → Int} {n : Nat} {room period : Int} (hp : (Code.chk p).1 = 0) (r0 : 2 ≤ room) (r1 : room ≤ 64) (q0 : 1 ≤ period) (q1 : period ≤ 50) : Runs room period p V n 0 (RM.new p room period) [Frame.begin] 0 :=
  ⟨rfl, rfl, rfl, RM.new_inv (Mach.good_of hp) r0 r1 q0 q1, (by simp [RM.new]), ⟨_, Hist.tale_new p room period⟩, Hist.fit_new p room period, rfl, rfl⟩
theorem runs_len {R Q : Int} {p : ByteArray} {V : Nat → Int} {n i : Nat} {m : RM} {l : List StV} {sv : Int} (h : Runs R Q p V n i m l sv) : 0 < l.length ∧ l.length ≤ 10001 := by
  have e := FL_len (p := p) (V := V) (n := n) (i := i)
  rw [← h.list] at e
  have h1 := h.inv.ok.legal.n0
  have h2 := h.inv.ok.legal.n1
  rw [h.state] at h1 h2
  omega
theorem FilmAt.lt {w : World} {B fb xb r cap : Nat} {p : ByteArray} {m : RM} {l : List StV} {sv : Int} (h : FilmAt w B fb xb r cap p m l sv) : fb < w.heap.size ∧ xb < w.heap.size ∧ r < w.heap.size ∧ B ≤ fb ∧ B ≤ xb ∧ B ≤ r :=
  ⟨h.box.lt, h.code.lt, (h.row.lt r rfl).2, h.gf, h.gx, (h.row.lt r rfl).1⟩
/-- Raw numbers below a block. -/
theorem ints_at {w w' : World} {a : Option Addr} {len B : Nat} {V : Nat → Int} (h : Ints w a len V) (hB : w.heap.size ≤ B) (hb : ∀ blk, blk < w.heap.size → w'.heap[blk]? = w.heap[blk]?) :
    len = 0 ∨ ∃ blk off, a = some ⟨blk, off, none⟩ ∧ blk < B ∧ ∀ i, i < len → w'.cell? ⟨blk, off + i, none⟩ = some (.int .i64 (V i)) ∧ i64ok (V i) := by
  rcases h with h | ⟨blk, off, rfl, hl, hc⟩
  · exact .inl h
  · exact .inr ⟨blk, off, rfl, by omega, fun i hi => ⟨by rw [World.cell?_of_block (w := w) (hb blk hl)]; exact (hc i hi).1, (hc i hi).2⟩⟩
theorem drawn_below {w w' : World} (h : Drawn w w') : Below w.heap.size w w' := by
  obtain ⟨d, rfl⟩ := h
  exact ⟨rfl, rfl, rfl, Nat.le_refl _, fun _ _ => rfl⟩

theorem below_list {a w w' : World} {o : List Nat} (h : Below a.heap.size a w) (hk : Keeps w w' o) (ho : ∀ x ∈ o, a.heap.size ≤ x) : Below a.heap.size a w' :=
  ⟨hk.os.trans h.os, hk.tape.trans h.tape, hk.output.trans h.output, Nat.le_trans h.size hk.size, fun i hi => by
    rw [hk.block i (Nat.lt_of_lt_of_le hi h.size) (fun e => by have := ho i e; omega)]
    exact h.block i hi⟩
theorem open_ints {H : Type} {enc : TypeId × Value → H} {w : World} {base : Nat} {spare : Nat → Bool} {held : Bool} {fuel : Nat} {a : Option Addr} {len cap : Nat} {x : DataW H × List MemPlace} (h : DataW.trod enc Try.prog w base spare held fuel 22 [.slice a len cap] = some x) :
    ∃ V, Ints w a len V := by
  rcases Deep.open_slice1 Try.underlying22 cellsInt h with ⟨hcs, _⟩ | ⟨a', len', cap', m, n, U, D, Pl, hcs, hb, hl, hm, hmm, _, hx⟩
  · simp at hcs
    exact ⟨fun _ => 0, .inl hcs.2.1⟩
  · simp at hcs
    obtain ⟨rfl, rfl, rfl⟩ := hcs
    by_cases h0 : len = 0
    · exact ⟨fun _ => 0, .inl h0⟩
    · have hlm : len ≤ m := by rw [hmm]; split <;> omega
      obtain ⟨b, off, spot⟩ := a'
      have hspot : spot = none := by
        have h5 := (hx 0 (by omega)).1
        simpa [Addr.add] using World.cell?_spot h5
      subst hspot
      obtain ⟨V, hV⟩ := Deep.choose_lt (α := Int) (p := fun i z => w.cell? ⟨b, off + i, none⟩ = some (.int .i64 z) ∧ i64ok z) (n := len) (fun i hi => by
        obtain ⟨h1, h2⟩ := hx i (by omega)
        obtain ⟨z, hz, _, hw⟩ := DataW.trod_int Try.underlying3 h2
        simp at hz
        rw [hz, Addr.add_mid] at h1
        exact ⟨z, h1, ok_of_wf hw⟩)
      exact ⟨V, .inr ⟨b, off, rfl, World.block_lt_of_cell? w _ (hV 0 (by omega)).1, hV⟩⟩
theorem bytesInt : Try.prog.bytesOf 3 = 8 := by kernel_rfl
theorem ints_len {H : Type} {enc : TypeId × Value → H} {w : World} {base : Nat} {spare : Nat → Bool} {held : Bool} {fuel : Nat} {a : Option Addr} {len cap : Nat} {x : DataW H × List MemPlace} (h : DataW.trod enc Try.prog w base spare held fuel 22 [.slice a len cap] = some x)
    {ts : List TypeId} {ds : List (DataW H)} {j : Nat} (ht : ts[j]? = some 22) (hd : ds[j]? = some x.1) (hs : (DataW.weightsEach Try.prog ts ds).all (· ≤ reachBytes) = true) : len < 1000000000000000000 := by
  rcases Deep.open_slice Try.underlying22 h with ⟨hcs, _⟩ | ⟨a', len', cap', m, n, D, Pl, hcs, hb, hl, hm, hmm, hx, _⟩
  · simp at hcs
    omega
  · simp at hcs
    obtain ⟨rfl, rfl, rfl⟩ := hcs
    subst hx
    have := sized_slice hs (j := j) (t := 22) (e := 3) ht hd Try.underlying22
    rw [bytesInt] at this
    simp [reachBytes] at this
    omega
end Keep
end Go.Proofs.Ytcmoffiigpchiaa
