import Derived.Test.YtcmoffiigpchiaaGreatHsC
import Derived.BigQuiet
import Derived.Test.YtcmoffiigpchiaaGreatRfA
namespace Go.Proofs.YtcmoffiigpchiaaGreat
open Go.RowKit

/-- A run, as it lies from the beginning of a block on. -/
structure LiesF (w : World) (g : Nat) (l : List Hist.En) : Prop where
  lt : g < w.heap.size
  at_ : ∀ i e, l[i]? = some e → w.rangeAt g (i * 15) e.fcells
theorem LiesF.next {w w1 : World} {g : Nat} {l : List Hist.En} (h : LiesF w g l) (hb : Below w.heap.size w w1) : LiesF w1 g l :=
  ⟨Nat.lt_of_lt_of_le h.lt hb.size, fun i e hi => rangeAt_below hb h.lt (h.at_ i e hi)⟩
theorem LiesF.of {w wr : World} {g cap : Nat} {l : List Hist.En} (h : wr.ownsRow w.heap.size 116 15 (.slice (some ⟨g, 0, none⟩) l.length cap) l.length (rowOf Hist.En.fcells l)) : LiesF wr g l :=
  ⟨(h.lt g rfl).2, fun _ _ hi => row_range fcells_length h hi⟩
/-- What is left of a run from a place on. -/
abbrev slF (g cap len j o : Nat) : Value := .slice (some ⟨g, o, none⟩) (len - j) (cap - j)
/-- A past, as the cells of its struct. -/
abbrev pcells (n : Int) (s : StV) (k : Bool) (v : Value) : Array Value := #[.int .i64 n, .int .i64 s.n, .int .i64 s.pc, .string s.regs, .string s.cells, .int .i64 s.clock, .int .i64 s.handler, .int .i64 s.back, .bool s.pending, .bool s.halted, .bool k, v]
abbrev pval (n : Int) (s : StV) (k : Bool) (v : Value) : Value := .agg (pcells n s k v)
/-- Whether the next frame is of that kind and of this time. -/
def comesB (l : List Hist.En) (j : Nat) (n : Int) (st : Bool) : Bool := match l[j]? with
  | some e => (e.st == st) && decide ((e.n : Int) = n)
  | none => false
theorem kind_beq (a b : Bool) : ((((kindN a : Nat) : Int)) == ((kindN b : Nat) : Int)) = (a == b) := by
  cases a <;> cases b <;> rfl

set_option maxRecDepth 100000 in
set_option maxHeartbeats 4000000 in
theorem comes_code (l : List Hist.En) (g cap j o : Nat) (ho : j < l.length → o = j * 15) (hj : j ≤ l.length) (hl : l.length < 1000000) (n : Int) (s : StV) (k st : Bool) (w : World) (hL : LiesF w g l) :
    Calls Tryz.prog 115 #[pval n s k (slF g cap l.length j o), .int .u8 (kindN st)] w fun e w' => e = .returned (.bool (comesB l j n st)) ∧ Below w.heap.size w w' := by
  obtain ⟨sn, pc, regs, cells, clock, handler, back, pending, halted⟩ := s
  cases hx : l[j]? with
  | none =>
    have hjl : l.length ≤ j := by
      rcases Nat.lt_or_ge j l.length with h | h
      · rw [List.getElem?_eq_getElem h] at hx; cases hx
      · exact h
    have hm : l.length - j = 0 := by omega
    have HB : Hid (comesB l j n st = false) := hide (by unfold comesB; rw [hx])
    simp only [pval, pcells, slF, hm]
    clear hx hjl hj hm hL ho
    go_enter Tryz.func115, Tryz.ntmps115
    go_upto_region 1 with fail
    go_quiet (fail)
    go_wp2_with fail
    go_ret
    exact ⟨by rw [unhide HB]; rfl, bel_drewN ((Below.refl _ _).alloc (Nat.le_refl _) _) _⟩
  | some e =>
    have hjl : j < l.length := (List.getElem?_eq_some_iff.1 hx).1
    obtain ⟨m, hm⟩ : ∃ m, l.length - j = m + 1 := ⟨l.length - j - 1, by omega⟩
    have HB : Hid (comesB l j n st = ((e.st == st) && decide ((e.n : Int) = n))) := hide (by unfold comesB; rw [hx])
    have hr := hL.at_ j e hx
    obtain rfl := ho hjl
    have c0 := hr 0 _ rfl
    have c2 := hr 2 _ rfl
    rw [Nat.add_zero] at c0
    have hg := hL.lt
    have dk := kind_beq e.st st
    have hm1 : m + 1 < 1000000 := by omega
    simp only [pval, pcells, slF, hm]
    generalize ((kindN e.st : Nat) : Int) = ke at *
    generalize ((kindN st : Nat) : Int) = ks at *
    generalize ((e.n : Nat) : Int) = en at *
    generalize (e.st == st) = q at *
    clear hx hr hL hj hjl hm hl
    go_enter Tryz.func115, Tryz.ntmps115
    go_upto_region 1 with fail
    have X0 := hide (Box.new w #[.int .i64 n, .int .i64 sn, .int .i64 pc, .string regs, .string cells, .int .i64 clock, .int .i64 handler, .int .i64 back, .bool pending, .bool halted, .bool k, .slice (some ⟨g, j * 15, none⟩) (m + 1) (cap - j)] 124)
    have B0 := hide ((Below.refl w.heap.size w).alloc (Nat.le_refl _) (.cells #[.int .i64 n, .int .i64 sn, .int .i64 pc, .string regs, .string cells, .int .i64 clock, .int .i64 handler, .int .i64 back, .bool pending, .bool halted, .bool k, .slice (some ⟨g, j * 15, none⟩) (m + 1) (cap - j)] 124))
    have c0' := ((unhide B0).cell (p := ⟨g, j * 15, none⟩) hg).trans c0
    have c2' := ((unhide B0).cell (p := ⟨g, j * 15 + 2, none⟩) hg).trans c2
    generalize w.alloc (.cells #[.int .i64 n, .int .i64 sn, .int .i64 pc, .string regs, .string cells, .int .i64 clock, .int .i64 handler, .int .i64 back, .bool pending, .bool halted, .bool k, .slice (some ⟨g, j * 15, none⟩) (m + 1) (cap - j)] 124) = wy at *
    obtain ⟨cx, fx, gx⟩ := unhide X0
    clear gx c0 c2
    cases q with
    | false =>
      rw [Bool.false_and] at HB
      go_quiet (fail)
      go_wp2_with fail
      go_ret
      exact ⟨by rw [unhide HB]; rfl, bel_drewN (unhide B0) _⟩
    | true =>
      rw [Bool.true_and] at HB
      by_cases hn : en = n
      · have dn : (en == n) = true := by simp [hn]
        rw [decide_eq_true hn] at HB
        clear hn
        go_quiet (fail)
        go_wp2_with fail
        go_ret
        exact ⟨by rw [unhide HB]; rfl, bel_drewN (unhide B0) _⟩
      · have dn : (en == n) = false := by simp [hn]
        rw [decide_eq_false hn] at HB
        clear hn
        go_quiet (fail)
        go_wp2_with fail
        go_ret
        exact ⟨by rw [unhide HB]; rfl, bel_drewN (unhide B0) _⟩
end Go.Proofs.YtcmoffiigpchiaaGreat
