import Derived.Test.YtcmoffiigpchiaaHsC
import Derived.BigQuiet
import Derived.Test.YtcmoffiigpchiaaBoxW
namespace Go.Proofs.Ytcmoffiigpchiaa
open Go.RowKit

/-- A run, as it lies from the beginning of a block on. -/
structure LiesF (w : World) (g : Nat) (l : List Hist.En) : Prop where
  lt : g < w.heap.size
  at_ : ∀ i e, l[i]? = some e → w.rangeAt g (i * 15) e.fcells
theorem LiesF.next {w w1 : World} {g : Nat} {l : List Hist.En} (h : LiesF w g l) (hb : Below w.heap.size w w1) : LiesF w1 g l :=
  ⟨Nat.lt_of_lt_of_le h.lt hb.size, fun i e hi => rangeAt_below hb h.lt (h.at_ i e hi)⟩
theorem LiesF.of {w wr : World} {g cap : Nat} {l : List Hist.En} (h : wr.ownsRow w.heap.size 79 15 (.slice (some ⟨g, 0, none⟩) l.length cap) l.length (rowOf Hist.En.fcells l)) : LiesF wr g l :=
  ⟨(h.lt g rfl).2, fun _ _ hi => row_range fcells_length h hi⟩
/-- What is left of a run from a place on. -/
abbrev slF (g cap len j o : Nat) : Value := .slice (some ⟨g, o, none⟩) (len - j) (cap - j)
/-- A past, as the cells of its struct. -/
abbrev pcells (n : Int) (s : StV) (k : Bool) (v : Value) : Array Value := #[.int .i64 n, .int .i64 s.n, .int .i64 s.pc, .string s.regs, .string s.cells, .int .i64 s.clock, .int .i64 s.handler, .int .i64 s.back, .bool s.pending, .bool s.halted, .bool k, v]
abbrev pval (n : Int) (s : StV) (k : Bool) (v : Value) : Value := .agg (pcells n s k v)
/-- Whether the next frame is of that kind and of this time. -/
def comesB (l : List Hist.En) (j : Nat) (n : Int) (st : Bool) : Bool := match l[j]? with
  | some e => (e.st == st) && decide ((e.n : Int) = n)
  | none => false
theorem kind_beq (a b : Bool) : ((((kindN a : Nat) : Int)) == ((kindN b : Nat) : Int)) = (a == b) := by
  cases a <;> cases b <;> rfl

set_option maxRecDepth 100000 in
set_option maxHeartbeats 4000000 in
theorem comes_code (l : List Hist.En) (g cap j o : Nat) (ho : j < l.length → o = j * 15) (hj : j ≤ l.length) (hl : l.length < 1000000) (n : Int) (s : StV) (k st : Bool) (w : World) (hL : LiesF w g l) :
    Calls Try.prog 73 #[pval n s k (slF g cap l.length j o), .int .u8 (kindN st)] w fun e w' => e = .returned (.bool (comesB l j n st)) ∧ Below w.heap.size w w' := by
  obtain ⟨sn, pc, regs, cells, clock, handler, back, pending, halted⟩ := s
  cases hx : l[j]? with
  | none =>
    have hjl : l.length ≤ j := by
      rcases Nat.lt_or_ge j l.length with h | h
      · rw [List.getElem?_eq_getElem h] at hx; cases hx
      · exact h
    have hm : l.length - j = 0 := by omega
    have HB : Hid (comesB l j n st = false) := hide (by unfold comesB; rw [hx])
    simp only [pval, pcells, slF, hm]
    clear hx hjl hj hm hL ho
    go_enter Try.func73, Try.ntmps73
    go_upto_region 1 with fail
    go_quiet (fail)
    go_wp2_with fail
    go_ret
    exact ⟨by rw [unhide HB]; rfl, bel_drewN ((Below.refl _ _).alloc (Nat.le_refl _) _) _⟩
  | some e =>
    have hjl : j < l.length := (List.getElem?_eq_some_iff.1 hx).1
    obtain ⟨m, hm⟩ : ∃ m, l.length - j = m + 1 := ⟨l.length - j - 1, by omega⟩
    have HB : Hid (comesB l j n st = ((e.st == st) && decide ((e.n : Int) = n))) := hide (by unfold comesB; rw [hx])
    have hr := hL.at_ j e hx
    obtain rfl := ho hjl
    have c0 := hr 0 _ rfl
    have c2 := hr 2 _ rfl
    rw [Nat.add_zero] at c0
    have hg := hL.lt
    have dk := kind_beq e.st st
    have hm1 : m + 1 < 1000000 := by omega
    simp only [pval, pcells, slF, hm]
    generalize ((kindN e.st : Nat) : Int) = ke at *
    generalize ((kindN st : Nat) : Int) = ks at *
    generalize ((e.n : Nat) : Int) = en at *
    generalize (e.st == st) = q at *
    clear hx hr hL hj hjl hm hl
    go_enter Try.func73, Try.ntmps73
    go_upto_region 1 with fail
    have X0 := hide (Box.new w #[.int .i64 n, .int .i64 sn, .int .i64 pc, .string regs, .string cells, .int .i64 clock, .int .i64 handler, .int .i64 back, .bool pending, .bool halted, .bool k, .slice (some ⟨g, j * 15, none⟩) (m + 1) (cap - j)] 88)
    have B0 := hide ((Below.refl w.heap.size w).alloc (Nat.le_refl _) (.cells #[.int .i64 n, .int .i64 sn, .int .i64 pc, .string regs, .string cells, .int .i64 clock, .int .i64 handler, .int .i64 back, .bool pending, .bool halted, .bool k, .slice (some ⟨g, j * 15, none⟩) (m + 1) (cap - j)] 88))
    have c0' := ((unhide B0).cell (p := ⟨g, j * 15, none⟩) hg).trans c0
    have c2' := ((unhide B0).cell (p := ⟨g, j * 15 + 2, none⟩) hg).trans c2
    generalize w.alloc (.cells #[.int .i64 n, .int .i64 sn, .int .i64 pc, .string regs, .string cells, .int .i64 clock, .int .i64 handler, .int .i64 back, .bool pending, .bool halted, .bool k, .slice (some ⟨g, j * 15, none⟩) (m + 1) (cap - j)] 88) = wy at *
    obtain ⟨cx, fx, gx⟩ := unhide X0
    clear gx c0 c2
    cases q with
    | false =>
      rw [Bool.false_and] at HB
      go_quiet (fail)
      go_wp2_with fail
      go_ret
      exact ⟨by rw [unhide HB]; rfl, bel_drewN (unhide B0) _⟩
    | true =>
      rw [Bool.true_and] at HB
      by_cases hn : en = n
      · have dn : (en == n) = true := by simp [hn]
        rw [decide_eq_true hn] at HB
        clear hn
        go_quiet (fail)
        go_wp2_with fail
        go_ret
        exact ⟨by rw [unhide HB]; rfl, bel_drewN (unhide B0) _⟩
      · have dn : (en == n) = false := by simp [hn]
        rw [decide_eq_false hn] at HB
        clear hn
        go_quiet (fail)
        go_wp2_with fail
        go_ret
        exact ⟨by rw [unhide HB]; rfl, bel_drewN (unhide B0) _⟩
end Go.Proofs.Ytcmoffiigpchiaa

namespace Go.Proofs.Ytcmoffiigpchiaa
open Go.RowKit

theorem putP_arr (a0 a1 a2 a3 a4 a5 a6 a7 a8 a9 a10 a11 v1 v2 v3 v4 v5 v6 v7 v8 v9 v10 v11 : Value) : (((((((((((#[a0, a1, a2, a3, a4, a5, a6, a7, a8, a9, a10, a11].setIfInBounds 1 v1).setIfInBounds 2 v2).setIfInBounds 3 v3).setIfInBounds 4 v4).setIfInBounds 5 v5).setIfInBounds 6 v6).setIfInBounds 7 v7).setIfInBounds 8 v8).setIfInBounds 9 v9).setIfInBounds 10 v10).setIfInBounds 11 v11) = #[a0, v1, v2, v3, v4, v5, v6, v7, v8, v9, v10, v11] := by simp
theorem Box.putP {w : World} {b : Nat} {a0 a1 a2 a3 a4 a5 a6 a7 a8 a9 a10 a11 : Value} (h : Box w b #[a0, a1, a2, a3, a4, a5, a6, a7, a8, a9, a10, a11]) (v1 v2 v3 v4 v5 v6 v7 v8 v9 v10 v11 : Value) :
    Box (((((((((((w.setCell ⟨b, 1, none⟩ v1).setCell ⟨b, 2, none⟩ v2).setCell ⟨b, 3, none⟩ v3).setCell ⟨b, 4, none⟩ v4).setCell ⟨b, 5, none⟩ v5).setCell ⟨b, 6, none⟩ v6).setCell ⟨b, 7, none⟩ v7).setCell ⟨b, 8, none⟩ v8).setCell ⟨b, 9, none⟩ v9).setCell ⟨b, 10, none⟩ v10).setCell ⟨b, 11, none⟩ v11) b #[a0, v1, v2, v3, v4, v5, v6, v7, v8, v9, v10, v11] := by
  rw [← putP_arr a0 a1 a2 a3 a4 a5 a6 a7 a8 a9 a10 a11 v1 v2 v3 v4 v5 v6 v7 v8 v9 v10 v11]
  exact (((((((((((h.set 1 v1 (by simp)).set 2 v2 (by simp)).set 3 v3 (by simp)).set 4 v4 (by simp)).set 5 v5 (by simp)).set 6 v6 (by simp)).set 7 v7 (by simp)).set 8 v8 (by simp)).set 9 v9 (by simp)).set 10 v10 (by simp)).set 11 v11 (by simp))
theorem putQ_arr (a0 a1 a2 a3 a4 a5 a6 a7 a8 a9 a10 a11 v0 v1 v2 v3 v4 v5 v6 v7 v8 v9 v10 v11 : Value) : ((((((((((((#[a0, a1, a2, a3, a4, a5, a6, a7, a8, a9, a10, a11].setIfInBounds 0 v0).setIfInBounds 1 v1).setIfInBounds 2 v2).setIfInBounds 3 v3).setIfInBounds 4 v4).setIfInBounds 5 v5).setIfInBounds 6 v6).setIfInBounds 7 v7).setIfInBounds 8 v8).setIfInBounds 9 v9).setIfInBounds 10 v10).setIfInBounds 11 v11) = #[v0, v1, v2, v3, v4, v5, v6, v7, v8, v9, v10, v11] := by simp
theorem Box.putQ {w : World} {b : Nat} {a0 a1 a2 a3 a4 a5 a6 a7 a8 a9 a10 a11 : Value} (h : Box w b #[a0, a1, a2, a3, a4, a5, a6, a7, a8, a9, a10, a11]) (v0 v1 v2 v3 v4 v5 v6 v7 v8 v9 v10 v11 : Value) :
    Box ((((((((((((w.setCell ⟨b, 0, none⟩ v0).setCell ⟨b, 1, none⟩ v1).setCell ⟨b, 2, none⟩ v2).setCell ⟨b, 3, none⟩ v3).setCell ⟨b, 4, none⟩ v4).setCell ⟨b, 5, none⟩ v5).setCell ⟨b, 6, none⟩ v6).setCell ⟨b, 7, none⟩ v7).setCell ⟨b, 8, none⟩ v8).setCell ⟨b, 9, none⟩ v9).setCell ⟨b, 10, none⟩ v10).setCell ⟨b, 11, none⟩ v11) b #[v0, v1, v2, v3, v4, v5, v6, v7, v8, v9, v10, v11] := by
  rw [← putQ_arr a0 a1 a2 a3 a4 a5 a6 a7 a8 a9 a10 a11 v0 v1 v2 v3 v4 v5 v6 v7 v8 v9 v10 v11]
  exact ((((((((((((h.set 0 v0 (by simp)).set 1 v1 (by simp)).set 2 v2 (by simp)).set 3 v3 (by simp)).set 4 v4 (by simp)).set 5 v5 (by simp)).set 6 v6 (by simp)).set 7 v7 (by simp)).set 8 v8 (by simp)).set 9 v9 (by simp)).set 10 v10 (by simp)).set 11 v11 (by simp))

theorem putN_arr (a0 a1 a2 a3 a4 a5 a6 a7 a8 a9 a10 a11 v1 v2 v3 v4 v5 v6 v7 v8 v9 : Value) : (((((((((#[a0, a1, a2, a3, a4, a5, a6, a7, a8, a9, a10, a11].setIfInBounds 1 v1).setIfInBounds 2 v2).setIfInBounds 3 v3).setIfInBounds 4 v4).setIfInBounds 5 v5).setIfInBounds 6 v6).setIfInBounds 7 v7).setIfInBounds 8 v8).setIfInBounds 9 v9) = #[a0, v1, v2, v3, v4, v5, v6, v7, v8, v9, a10, a11] := by simp
theorem Box.putN {w : World} {b : Nat} {a0 a1 a2 a3 a4 a5 a6 a7 a8 a9 a10 a11 : Value} (h : Box w b #[a0, a1, a2, a3, a4, a5, a6, a7, a8, a9, a10, a11]) (v1 v2 v3 v4 v5 v6 v7 v8 v9 : Value) :
    Box (((((((((w.setCell ⟨b, 1, none⟩ v1).setCell ⟨b, 2, none⟩ v2).setCell ⟨b, 3, none⟩ v3).setCell ⟨b, 4, none⟩ v4).setCell ⟨b, 5, none⟩ v5).setCell ⟨b, 6, none⟩ v6).setCell ⟨b, 7, none⟩ v7).setCell ⟨b, 8, none⟩ v8).setCell ⟨b, 9, none⟩ v9) b #[a0, v1, v2, v3, v4, v5, v6, v7, v8, v9, a10, a11] := by
  rw [← putN_arr a0 a1 a2 a3 a4 a5 a6 a7 a8 a9 a10 a11 v1 v2 v3 v4 v5 v6 v7 v8 v9]
  exact (((((((((h.set 1 v1 (by simp)).set 2 v2 (by simp)).set 3 v3 (by simp)).set 4 v4 (by simp)).set 5 v5 (by simp)).set 6 v6 (by simp)).set 7 v7 (by simp)).set 8 v8 (by simp)).set 9 v9 (by simp))
/-- How many frames are left. -/
def lenAt (w : World) (b : Nat) : Nat := match w.cell? ⟨b, 11, none⟩ with
  | some (.slice _ len _) => len
  | _ => 0
theorem lenAt_box {w : World} {b : Nat} {ca : Array Value} {a : Option Addr} {len cap : Nat} (h : Box w b ca) (h11 : ca[11]? = some (.slice a len cap)) : lenAt w b = len := by
  unfold lenAt
  rw [h.c 11, h11]
theorem LiesF.keep {w w1 : World} {g : Nat} {l : List Hist.En} {o : List Nat} (h : LiesF w g l) (k : Keeps w w1 o) (hg : g ∉ o) : LiesF w1 g l :=
  ⟨Nat.lt_of_lt_of_le h.lt k.size, fun i e hi j v hv => by rw [World.cell?_of_block (w := w) (k.block g h.lt hg)]; exact h.at_ i e hi j v hv⟩
/-- What told leaves, as it lies. -/
def Told (l : List Hist.En) (g cap : Nat) (x : Hist.Pt) (v : Value) : Prop := ∃ j o, j ≤ l.length ∧ (j < l.length → o = j * 15) ∧ x.later = l.drop j ∧ v = pval x.n x.s x.known (slF g cap l.length j o)
/-- What holds while frames are told. -/
def ToldInv (w wr : World) (l : List Hist.En) (g cap : Nat) (n : Int) (gx : Hist.Pt) : Prop :=
  ∃ (j o : Nat) (s : StV) (k : Bool), j ≤ l.length ∧ (j < l.length → o = j * 15) ∧ gx = Hist.told n s k (l.drop j) ∧ Box wr w.heap.size (pcells n s k (slF g cap l.length j o)) ∧ Box wr (w.heap.size + 1) #[.int .i64 0, .int .i64 0, .int .i64 0, .string ⟨#[]⟩, .string ⟨#[]⟩, .int .i64 0, .int .i64 0, .int .i64 0, .bool false, .bool false, .bool false, .slice none 0 0] ∧ LiesF wr g l ∧ Below w.heap.size w wr
theorem told_on {l : List Hist.En} {j : Nat} {n : Int} {s : StV} {k : Bool} {e : Hist.En} (hx : l[j]? = some e) (h : comesB l j n true = true) : Hist.told n s k (l.drop j) = Hist.told n e.s true (l.drop (j + 1)) := by
  have hj := (List.getElem?_eq_some_iff.1 hx).1
  have hd : l.drop j = e :: l.drop (j + 1) := by
    rw [List.drop_eq_getElem_cons hj]
    congr 1
    rw [List.getElem?_eq_getElem hj] at hx
    exact Option.some.inj hx
  unfold comesB at h
  rw [hx] at h
  simp at h
  rw [hd]
  simp [Hist.told, h.1, h.2]
theorem told_stop {l : List Hist.En} {j : Nat} {n : Int} {s : StV} {k : Bool} (h : comesB l j n true = false) : Hist.told n s k (l.drop j) = ⟨n, s, k, l.drop j⟩ := by
  unfold comesB at h
  cases hx : l[j]? with
  | none =>
    have hjl : l.length ≤ j := by
      rcases Nat.lt_or_ge j l.length with h' | h'
      · rw [List.getElem?_eq_getElem h'] at hx; cases hx
      · exact h'
    rw [List.drop_eq_nil_of_le hjl]
    rfl
  | some e =>
    have hj := (List.getElem?_eq_some_iff.1 hx).1
    have hd : l.drop j = e :: l.drop (j + 1) := by
      rw [List.drop_eq_getElem_cons hj]
      congr 1
      rw [List.getElem?_eq_getElem hj] at hx
      exact Option.some.inj hx
    rw [hx] at h
    simp at h
    rw [hd]
    have : ¬ (e.st = true ∧ (e.n : Int) = n) := fun hh => h hh.1 hh.2
    simp [Hist.told, this]
theorem comes_at {l : List Hist.En} {j : Nat} {n : Int} {st : Bool} (h : comesB l j n st = true) : ∃ e, l[j]? = some e := by
  unfold comesB at h
  split at h
  · rename_i e he; exact ⟨e, he⟩
  · cases h

set_option maxRecDepth 100000 in
set_option maxHeartbeats 4000000 in
theorem told_code (l : List Hist.En) (g cap j0 o0 : Nat) (ho0 : j0 < l.length → o0 = j0 * 15) (hj0 : j0 ≤ l.length) (hc : l.length ≤ cap) (hl : l.length < 1000000) (n : Int) (s0 : StV) (k0 : Bool) (w : World) (hL : LiesF w g l) :
    Calls Try.prog 72 #[pval n s0 k0 (slF g cap l.length j0 o0)] w fun e w' => ∃ v, e = .returned v ∧ Told l g cap (Hist.told n s0 k0 (l.drop j0)) v ∧ Below w.heap.size w w' := by
  have HC := hide (fun j o (ho : j < l.length → o = j * 15) (hj : j ≤ l.length) s k w hL => comes_code l g cap j o ho hj hl n s k true w hL)
  obtain ⟨gx, hgx⟩ : ∃ X, X = Hist.told n s0 k0 (l.drop j0) := ⟨_, rfl⟩
  rw [← hgx]
  obtain ⟨sn0, pc0, regs0, cells0, clock0, handler0, back0, pending0, halted0⟩ := s0
  have HL := hide hL
  have hgw := hL.lt
  clear hL
  go_enter Try.func72, Try.ntmps72
  go_wp2_with fail
  go_loopw [] (fun wr => ToldInv w wr l g cap n gx) (fun wr => lenAt wr w.heap.size)
  case atStart =>
    refine ⟨j0, o0, ⟨sn0, pc0, regs0, cells0, clock0, handler0, back0, pending0, halted0⟩, k0, hj0, ho0, hgx, (Box.new w _ _).alloc _, ?_, (unhide HL).next (((Below.refl _ _).alloc (Nat.le_refl _) _).alloc (by simp) _), ((Below.refl _ _).alloc (Nat.le_refl _) _).alloc (by simp) _⟩
    have h := Box.new (w.alloc (.cells #[.int .i64 n, .int .i64 sn0, .int .i64 pc0, .string regs0, .string cells0, .int .i64 clock0, .int .i64 handler0, .int .i64 back0, .bool pending0, .bool halted0, .bool k0, slF g cap l.length j0 o0] 88)) #[.int .i64 0, .int .i64 0, .int .i64 0, .string ⟨#[]⟩, .string ⟨#[]⟩, .int .i64 0, .int .i64 0, .int .i64 0, .bool false, .bool false, .bool false, .slice none 0 0] 88
    rw [show (w.alloc (.cells #[.int .i64 n, .int .i64 sn0, .int .i64 pc0, .string regs0, .string cells0, .int .i64 clock0, .int .i64 handler0, .int .i64 back0, .bool pending0, .bool halted0, .bool k0, slF g cap l.length j0 o0] 88)).heap.size = w.heap.size + 1 by simp] at h
    exact h
  case round =>
    obtain ⟨j, o, ⟨sn, pc, regs, cells, clock, handler, back, pending, halted⟩, k, hj, ho, hgj, hx, hy, hLr, hb⟩ := hrel
    have X0 := hide hx
    have Y0 := hide hy
    have L0 := hide hLr
    have B0 := hide hb
    have HGJ := hide hgj
    clear hx hy hLr hb hgj hgx HL
    simp only [pcells] at X0
    obtain ⟨cx, fx, gx'⟩ := unhide X0
    clear gx'
    have HCC := hide (unhide HC j o ho hj ⟨sn, pc, regs, cells, clock, handler, back, pending, halted⟩ k _ (unhide L0))
    simp only [pval, pcells] at HCC
    cases hco : comesB l j n true with
    | false =>
      have HT := hide ((unhide HGJ).trans (told_stop hco))
      rw [hco] at HCC
      clear hco
      go_wp2_with fail
      refine (unhide HCC).mono ?_
      rintro e w1 ⟨rfl, hb1⟩
      have X1 := hide ((unhide X0).next hb1)
      have Y1 := hide ((unhide Y0).next hb1)
      have B1 := hide ((unhide B0).trans (hb1.mono (unhide B0).size))
      clear hb1 cx fx
      obtain ⟨cx, fx, gx'⟩ := unhide X1
      obtain ⟨cy, fy, gy'⟩ := unhide Y1
      clear gx' gy'
      have cz := ((unhide Y1).putQ (.int .i64 n) (.int .i64 sn) (.int .i64 pc) (.string regs) (.string cells) (.int .i64 clock) (.int .i64 handler) (.int .i64 back) (.bool pending) (.bool halted) (.bool k) (slF g cap l.length j o)).c
      go_wp2_with fail
      refine bodyPost_ret (v := pval n ⟨sn, pc, regs, cells, clock, handler, back, pending, halted⟩ k (slF g cap l.length j o)) (by simp [results, Try.results72, go_sem, cz]) rfl ⟨_, rfl, ⟨j, o, hj, ho, by rw [unhide HT], by rw [unhide HT]⟩, ?_⟩
      repeat (refine Below.setCell ?_ (by simp) _)
      exact unhide B1
    | true =>
      obtain ⟨e, he⟩ := comes_at hco
      have HT := hide ((unhide HGJ).trans (told_on he hco))
      rw [hco] at HCC
      have hjl : j < l.length := (List.getElem?_eq_some_iff.1 he).1
      obtain rfl := ho hjl
      obtain ⟨m, hm⟩ : ∃ m, l.length - j = m + 1 := ⟨l.length - j - 1, by omega⟩
      obtain ⟨c, hcc⟩ : ∃ c, cap - j = c + 1 := ⟨cap - j - 1, by omega⟩
      go_wp2_with fail
      refine (unhide HCC).mono ?_
      rintro e0 w1 ⟨rfl, hb1⟩
      have X1 := hide ((unhide X0).next hb1)
      have Y1 := hide ((unhide Y0).next hb1)
      have B1 := hide ((unhide B0).trans (hb1.mono (unhide B0).size))
      have L1 := hide ((unhide L0).next hb1)
      have hr := (unhide L1).at_ j e he
      clear hb1 cx fx
      obtain ⟨est, ek, en, ⟨sn', pc', regs', cells', clock', handler', back', pending', halted'⟩, ⟨einput, eticks, einterrupt⟩⟩ := e
      have r3 := hr 3 _ rfl
      have r4 := hr 4 _ rfl
      have r5 := hr 5 _ rfl
      have r6 := hr 6 _ rfl
      have r7 := hr 7 _ rfl
      have r8 := hr 8 _ rfl
      have r9 := hr 9 _ rfl
      have r10 := hr 10 _ rfl
      have r11 := hr 11 _ rfl
      simp only at r3 r4 r5 r6 r7 r8 r9 r10 r11
      obtain ⟨cx, fx, gx'⟩ := unhide X1
      clear hr gx'
      go_upto_region 2 with fail
      go_cut [] from 3 to 15 (fun wx => Box wx w.heap.size #[.int .i64 n, .int .i64 sn', .int .i64 pc', .string regs', .string cells', .int .i64 clock', .int .i64 handler', .int .i64 back', .bool pending', .bool halted', .bool k, (slF g cap l.length j (j * 15))] ∧ Box wx (w.heap.size + 1) #[.int .i64 0, .int .i64 0, .int .i64 0, .string ⟨#[]⟩, .string ⟨#[]⟩, .int .i64 0, .int .i64 0, .int .i64 0, .bool false, .bool false, .bool false, .slice none 0 0] ∧ LiesF wx g l ∧ Below w.heap.size w wx)
      case first =>
        go_wp2_with fail
        go_meet
        case rel =>
          refine ⟨(unhide X1).putN _ _ _ _ _ _ _ _ _, ?_, ?_, ?_⟩
          · repeat (refine Box.off ?_ (by simp) _)
            exact unhide Y1
          · refine LiesF.keep (unhide L1) (o := [w.heap.size]) ?_ (by simp; omega)
            repeat (refine Keeps.setCell ?_ (by simp) _)
            exact Keeps.refl _ _
          · repeat (refine Below.setCell ?_ (by simp) _)
            exact unhide B1
      case rest =>
        obtain ⟨x2, y2, l2, b2⟩ := hcut
        have X2 := hide x2
        have Y2 := hide y2
        have L2 := hide l2
        have B2 := hide b2
        clear x2 y2 l2 b2 cx fx r3 r4 r5 r6 r7 r8 r9 r10 r11
        simp only [slF, hm, hcc] at X2
        have HM := hide hm
        have hj1 : j + 1 ≤ l.length := by omega
        have HE1 : Hid (l.length - (j + 1) = m) := hide (by omega)
        have HE2 : Hid (cap - (j + 1) = c) := hide (by omega)
        have HO1 : Hid (j + 1 < l.length → c ≠ 0) := hide (by intro h; omega)
        clear hm hcc hj hjl hc hl ho hj0 ho0
        have i1 : (1 : Int) ≤ ((m + 1 : Nat) : Int) := by omega
        have i2 : (1 : Int) ≤ (m : Int) + 1 := by omega
        obtain ⟨cx, fx, gx'⟩ := unhide X2
        clear gx'
        cases c with
        | zero =>
          go_wp2_with fail
          have X3 := hide (((unhide X2).set 10 (.bool true) (by simp)).set 11 (.slice (some ⟨g, j * 15, none⟩) m 0) (by simp))
          refine ⟨⟨j + 1, j * 15, ⟨sn', pc', regs', cells', clock', handler', back', pending', halted'⟩, true, hj1, ?_, unhide HT, ?_, Box.off (Box.off (unhide Y2) (by simp) _) (by simp) _, (unhide L2).keep (o := [w.heap.size]) (Keeps.setCell (Keeps.setCell (Keeps.refl _ _) (by simp) _) (by simp) _) (by simp; omega), ((unhide B2).setCell (by simp) _).setCell (by simp) _⟩, ?_⟩
          · intro h; exact absurd rfl (unhide HO1 h)
          · simp only [pcells, slF]
            rw [unhide HE1, unhide HE2]
            have h := unhide X3
            simpa using h
          · rw [lenAt_box (unhide X3) (a := some ⟨g, j * 15, none⟩) (len := m) (cap := 0) (by simp), lenAt_box (unhide X0) (a := some ⟨g, j * 15, none⟩) (len := l.length - j) (cap := cap - j) rfl, unhide HM]
            omega
        | succ c =>
          have i3 : ¬ c + 1 + 1 = 1 := by omega
          go_wp2_with fail
          have X3 := hide (((unhide X2).set 10 (.bool true) (by simp)).set 11 (.slice (some ⟨g, j * 15 + 15, none⟩) m (c + 1)) (by simp))
          refine ⟨⟨j + 1, j * 15 + 15, ⟨sn', pc', regs', cells', clock', handler', back', pending', halted'⟩, true, hj1, ?_, unhide HT, ?_, Box.off (Box.off (unhide Y2) (by simp) _) (by simp) _, (unhide L2).keep (o := [w.heap.size]) (Keeps.setCell (Keeps.setCell (Keeps.refl _ _) (by simp) _) (by simp) _) (by simp; omega), ((unhide B2).setCell (by simp) _).setCell (by simp) _⟩, ?_⟩
          · intro _; omega
          · simp only [pcells, slF]
            rw [unhide HE1, unhide HE2]
            have h := unhide X3
            simpa using h
          · rw [lenAt_box (unhide X3) (a := some ⟨g, j * 15 + 15, none⟩) (len := m) (cap := (c + 1)) (by simp), lenAt_box (unhide X0) (a := some ⟨g, j * 15, none⟩) (len := l.length - j) (cap := cap - j) rfl, unhide HM]
            omega
end Go.Proofs.Ytcmoffiigpchiaa

namespace Go.Proofs.Ytcmoffiigpchiaa
open Go.RowKit

set_option maxRecDepth 100000 in
set_option maxHeartbeats 4000000 in
theorem begin_code (l : List Hist.En) (g cap j : Nat) (e : Hist.En) (he : l[j]? = some e) (hc : l.length ≤ cap) (hl : l.length < 1000000) (w : World) (hL : LiesF w g l) :
    Calls Try.prog 49 #[slF g cap l.length j (j * 15)] w fun r w' => ∃ v, r = .returned v ∧ Told l g cap (Hist.beginP (l.drop j)) v ∧ Below w.heap.size w w' := by
  have hjl : j < l.length := (List.getElem?_eq_some_iff.1 he).1
  have hfn : Hist.firstN (l.drop j) = e.n := by
    unfold Hist.firstN
    rw [List.head?_eq_getElem?, List.getElem?_drop, Nat.add_zero, he]
  have HT := fun w1 => hide (fun (h : LiesF w1 g l) => told_code l g cap j (j * 15) (fun _ => rfl) (by omega) hc hl e.n Mach.zero false w1 h)
  have hbp : Hist.beginP (l.drop j) = Hist.told e.n Mach.zero false (l.drop j) := by unfold Hist.beginP; rw [hfn]
  rw [hbp]
  generalize Hist.told e.n Mach.zero false (l.drop j) = X at *
  have hr := hL.at_ j e he
  have c2 := hr 2 _ rfl
  have hg := hL.lt
  have HL := hide hL
  obtain ⟨m, hm⟩ : ∃ m, l.length - j = m + 1 := ⟨l.length - j - 1, by omega⟩
  have hm1 : m + 1 < 1000000 := by omega
  generalize ((e.n : Nat) : Int) = en at *
  simp only [pval, pcells, slF, hm] at HT ⊢
  clear hr hL hfn hbp he hjl hc hl
  have hz : Mach.zero = ⟨0, 0, ⟨#[]⟩, ⟨#[]⟩, 0, 0, 0, false, false⟩ := rfl
  rw [hz] at HT
  simp only at HT
  clear hz
  go_enter Try.func49, Try.ntmps49
  go_upto_region 2 with fail
  have X0 := hide (Box.new (w.alloc (.cells #[.int .i64 0, .int .i64 0, .int .i64 0, .string ⟨#[]⟩, .string ⟨#[]⟩, .int .i64 0, .int .i64 0, .int .i64 0, .bool false, .bool false, .bool false, .slice none 0 0] 88)) #[.int .i64 0, .int .i64 0, .int .i64 0, .string ⟨#[]⟩, .string ⟨#[]⟩, .int .i64 0, .int .i64 0, .int .i64 0, .bool false, .bool false, .bool false, .slice (some ⟨g, j * 15, none⟩) (m + 1) (cap - j)] 88)
  have Y0 := hide ((Box.new w #[.int .i64 0, .int .i64 0, .int .i64 0, .string ⟨#[]⟩, .string ⟨#[]⟩, .int .i64 0, .int .i64 0, .int .i64 0, .bool false, .bool false, .bool false, .slice none 0 0] 88).alloc (.cells #[.int .i64 0, .int .i64 0, .int .i64 0, .string ⟨#[]⟩, .string ⟨#[]⟩, .int .i64 0, .int .i64 0, .int .i64 0, .bool false, .bool false, .bool false, .slice (some ⟨g, j * 15, none⟩) (m + 1) (cap - j)] 88))
  have B0 := hide (((Below.refl w.heap.size w).alloc (Nat.le_refl _) (.cells #[.int .i64 0, .int .i64 0, .int .i64 0, .string ⟨#[]⟩, .string ⟨#[]⟩, .int .i64 0, .int .i64 0, .int .i64 0, .bool false, .bool false, .bool false, .slice none 0 0] 88)).alloc (by simp) (.cells #[.int .i64 0, .int .i64 0, .int .i64 0, .string ⟨#[]⟩, .string ⟨#[]⟩, .int .i64 0, .int .i64 0, .int .i64 0, .bool false, .bool false, .bool false, .slice (some ⟨g, j * 15, none⟩) (m + 1) (cap - j)] 88))
  rw [show (w.alloc (.cells #[.int .i64 0, .int .i64 0, .int .i64 0, .string ⟨#[]⟩, .string ⟨#[]⟩, .int .i64 0, .int .i64 0, .int .i64 0, .bool false, .bool false, .bool false, .slice none 0 0] 88)).heap.size = w.heap.size + 1 by simp] at X0
  have c2' := ((unhide B0).cell (p := ⟨g, j * 15 + 2, none⟩) hg).trans c2
  have L0 := hide ((unhide HL).next (unhide B0))
  generalize (w.alloc (.cells #[.int .i64 0, .int .i64 0, .int .i64 0, .string ⟨#[]⟩, .string ⟨#[]⟩, .int .i64 0, .int .i64 0, .int .i64 0, .bool false, .bool false, .bool false, .slice none 0 0] 88)).alloc (.cells #[.int .i64 0, .int .i64 0, .int .i64 0, .string ⟨#[]⟩, .string ⟨#[]⟩, .int .i64 0, .int .i64 0, .int .i64 0, .bool false, .bool false, .bool false, .slice (some ⟨g, j * 15, none⟩) (m + 1) (cap - j)] 88) = wy at *
  clear c2
  obtain ⟨cx, fx, gx⟩ := unhide X0
  clear gx
  have hm2 : (0 : Int) < (m : Int) + 1 := by omega
  go_upto_region 4 with fail
  have X1 := hide ((unhide X0).set 0 (.int .i64 en) (by simp))
  rw [show (#[.int .i64 0, .int .i64 0, .int .i64 0, .string ⟨#[]⟩, .string ⟨#[]⟩, .int .i64 0, .int .i64 0, .int .i64 0, .bool false, .bool false, .bool false, .slice (some ⟨g, j * 15, none⟩) (m + 1) (cap - j)] : Array Value).setIfInBounds 0 (.int .i64 en) = #[.int .i64 en, .int .i64 0, .int .i64 0, .string ⟨#[]⟩, .string ⟨#[]⟩, .int .i64 0, .int .i64 0, .int .i64 0, .bool false, .bool false, .bool false, .slice (some ⟨g, j * 15, none⟩) (m + 1) (cap - j)] by simp] at X1
  have Y1 := hide (Box.off (unhide Y0) (a := ⟨w.heap.size + 1, 0, none⟩) (by simp) (.int .i64 en))
  have B1 := hide ((unhide B0).setCell (p := ⟨w.heap.size + 1, 0, none⟩) (by simp) (.int .i64 en))
  have L1 := hide ((unhide L0).keep (o := [w.heap.size + 1]) ((Keeps.refl wy [w.heap.size + 1]).setCell (a := ⟨w.heap.size + 1, 0, none⟩) (by simp) (.int .i64 en)) (by simp; omega))
  generalize wy.setCell ⟨w.heap.size + 1, 0, none⟩ (.int .i64 en) = wz at *
  clear cx fx
  obtain ⟨cx, fx, gx⟩ := unhide X1
  clear gx
  go_wp2_with fail
  refine (unhide (HT _) (unhide L1)).mono ?_
  rintro r w3 ⟨v, rfl, ht, hb⟩
  obtain ⟨xn, ⟨sn, pc, regs, cells, clock, handler, back, pending, halted⟩, xk, xl⟩ := X
  obtain ⟨j', o', t1, t2, t3, rfl⟩ := ht
  have Y3 := hide ((unhide Y1).next hb)
  have B3 := hide ((unhide B1).trans (hb.mono (unhide B1).size))
  clear hb cx fx
  obtain ⟨cy, fy, gy⟩ := unhide Y3
  clear gy
  have HTT := hide (⟨j', o', t1, t2, t3, rfl⟩ : Told l g cap ⟨xn, ⟨sn, pc, regs, cells, clock, handler, back, pending, halted⟩, xk, xl⟩ (pval xn ⟨sn, pc, regs, cells, clock, handler, back, pending, halted⟩ xk (slF g cap l.length j' o')))
  clear t1 t2 t3
  have cz := ((unhide Y3).putQ (.int .i64 xn) (.int .i64 sn) (.int .i64 pc) (.string regs) (.string cells) (.int .i64 clock) (.int .i64 handler) (.int .i64 back) (.bool pending) (.bool halted) (.bool xk) (slF g cap l.length j' o')).c
  go_wp2_with fail
  refine bodyPost_ret (v := pval xn ⟨sn, pc, regs, cells, clock, handler, back, pending, halted⟩ xk (slF g cap l.length j' o')) (by simp [results, Try.results49, go_sem, cz]) rfl ⟨_, rfl, unhide HTT, ?_⟩
  repeat (refine Below.setCell ?_ (by simp) _)
  exact unhide B3
set_option maxRecDepth 100000 in
set_option maxHeartbeats 4000000 in
theorem since_code (l : List Hist.En) (g cap : Nat) (hne : l ≠ []) (hc : l.length ≤ cap) (hl : l.length < 1000000) (n : Int) (w : World) (hL : LiesF w g l) :
    Calls Try.prog 48 #[.slice (some ⟨g, 0, none⟩) l.length cap, .int .i64 n] w fun r w' => r = .returned (slF g cap l.length (Hist.fromOf l n) (Hist.fromOf l n * 15)) ∧ w' = w := by
  have hpos := List.length_pos_iff.2 hne
  have HL := hide hL
  clear hL hne
  go_enter Try.func48, Try.ntmps48
  go_wp2
  go_loop [5, 6] (fun f i => ∃ k : Nat, k ≤ l.length ∧ i = .int .i64 k ∧ f = .int .i64 (Hist.fromUp l n k : Nat)) (fun _ i => l.length - (intOf i).toNat)
  case atStart => exact ⟨0, Nat.zero_le _, rfl, rfl⟩
  case round =>
    obtain ⟨k, hk, rfl, rfl⟩ := hrel
    by_cases hlt : k < l.length
    · obtain ⟨e, he⟩ : ∃ e, l[k]? = some e := ⟨_, List.getElem?_eq_getElem hlt⟩
      have hr := (unhide HL).at_ k e he
      have c0 := hr 0 _ rfl
      have c2 := hr 2 _ rfl
      rw [Nat.add_zero] at c0
      have hup : Hid (Hist.fromUp l n (k + 1) = if e.st = true ∧ (e.n : Int) ≤ n then k else Hist.fromUp l n k) := hide (by
        conv => lhs; unfold Hist.fromUp
        rw [he])
      clear hr he
      cases hst : e.st with
      | false =>
        rw [hst] at c0 hup
        have c0' : w.cell? ⟨g, k * 15, none⟩ = some (.int .u8 69) := c0
        clear c0
        go_wp2
        go_round
        case rel => exact ⟨k + 1, by omega, by go_num, by rw [unhide hup]; simp⟩
        case measure => simp [intOf]; omega
      | true =>
        rw [hst] at c0 hup
        have c0' : w.cell? ⟨g, k * 15, none⟩ = some (.int .u8 67) := c0
        clear c0
        by_cases hn : (e.n : Int) ≤ n
        · go_wp2
          go_round
          case rel => exact ⟨k + 1, by omega, by go_num, by rw [unhide hup, if_pos ⟨rfl, hn⟩]⟩
          case measure => simp [intOf]; omega
        · go_wp2
          go_round
          case rel => exact ⟨k + 1, by omega, by go_num, by rw [unhide hup, if_neg (fun h => hn h.2)]⟩
          case measure => simp [intOf]; omega
    · have hkl : k = l.length := by omega
      subst hkl
      have hf := Hist.fromUp_le l n l.length
      have HF : Hid (Hist.fromUp l n l.length = Hist.fromOf l n) := hide rfl
      generalize Hist.fromUp l n l.length = f at *
      have f1 : (0 : Int) ≤ (f : Int) := by omega
      have f2 : (f : Int) ≤ (l.length : Int) := by omega
      have f3 : ¬ cap = f := by omega
      go_wp2
      go_ret
      exact ⟨by rw [← unhide HF]; rfl, rfl⟩
end Go.Proofs.Ytcmoffiigpchiaa
