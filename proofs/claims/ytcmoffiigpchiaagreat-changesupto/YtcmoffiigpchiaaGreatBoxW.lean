import Derived.Test.YtcmoffiigpchiaaGreatBase
import Derived.Deep.MidRow
import Derived.Laws.AppendOwn
namespace Go.Proofs.YtcmoffiigpchiaaGreat
open Go.RowKit

theorem bel_alloc {w w' : World} {o : Obj} (h : Below (w.alloc o).heap.size (w.alloc o) w') : Below w.heap.size w w' :=
  ((Below.refl _ _).alloc (Nat.le_refl _) o).trans (h.mono (by simp))

/-- A script, as it lies. -/
structure Script (w : World) (blk off len : Nat) (O : Nat → OpV) : Prop where
  lt : blk < w.heap.size
  lies : ∀ i, i < len → w.rangeAt blk (off + i * 18) (O i).cells

theorem rangeAt_below {B : Nat} {w w' : World} (h : Below B w w') {b o : Nat} {cs : List Value} (hb : b < B) (hc : w.rangeAt b o cs) : w'.rangeAt b o cs :=
  fun j v hv => by rw [h.cell (p := ⟨b, o + j, none⟩) hb]; exact hc j v hv

set_option maxHeartbeats 400000 in
theorem plays_any (lo hi : Int) (w : World) (blk off len cap : Nat) (O : Nat → OpV) (I : World → Prop)
    (hS : Script w blk off len O) (hlen : len ≤ 9223372036854775807)
    (hstart : I (w.alloc (.cells #[.slice none 0 0] 28)))
    (hstep : ∀ i wr, i < len → lo ≤ (O i).kind → (O i).kind ≤ hi → I wr → w.heap.size < wr.heap.size → Calls Tryz.prog 11 #[.pointer (some ⟨w.heap.size, 0, none⟩), (O i).val] wr fun e w' => e = .returned (.bool true) ∧ I w' ∧ Below w.heap.size wr w')
    (hends : ∀ wr, I wr → w.heap.size < wr.heap.size → Calls Tryz.prog 12 #[.pointer (some ⟨w.heap.size, 0, none⟩)] wr fun e w' => e = .returned (.bool true) ∧ Below w.heap.size wr w') :
    Calls Tryz.prog 10 #[.slice (some ⟨blk, off, none⟩) len cap, .int .i64 lo, .int .i64 hi] w fun e w' => e = .returned (.bool true) ∧ Below w.heap.size w w' := by
  have HS := hide hS
  have H1 := hide hstep
  have H2 := hide hends
  clear hS hstep hends
  go_enter Tryz.func10, Tryz.ntmps10
  go_wp2
  go_loopw [8] (fun i wr => ∃ k : Nat, k ≤ len ∧ i = .int .i64 k ∧ I wr ∧ w.heap.size < wr.heap.size ∧ Below w.heap.size w wr) (fun i _ => len - (intOf i).toNat)
  case atStart => exact ⟨0, Nat.zero_le _, rfl, hstart, by simp, (Below.refl _ _).alloc (Nat.le_refl _) _⟩
  case round =>
    obtain ⟨k, hk, rfl, hI, hz, hb⟩ := hrel
    by_cases hlt : k < len
    · have hc := rangeAt_below hb (unhide HS).lt ((unhide HS).lies k hlt)
      have hc0 : wr.cell? ⟨blk, off + k * 18, none⟩ = some (.int .i64 (O k).kind) := hc 0 _ rfl
      have HC := hide hc
      have H3 := hide hb
      clear hb hc
      by_cases hlo : lo ≤ (O k).kind
      · by_cases hhi : (O k).kind ≤ hi
        · go_wp2_with (first | (refine wpList_load_mid rfl 34 _ rfl blk (off + k * 18) rfl (O k).cells _ (unhide HC) Tryz.underlying34 rfl (by kernel_rfl) ?_) | (go_at_call 11; refine (unhide H1 k wr hlt hlo hhi hI hz).mono ?_; rintro e w' ⟨rfl, hI', hb'⟩))
          go_roundw
          case rel => exact ⟨k + 1, by omega, by go_num, hI', Nat.lt_of_lt_of_le hz hb'.size, (unhide H3).trans hb'⟩
          case measure => simp [intOf]; omega
        · go_wp2
          go_roundw
          case rel => exact ⟨k + 1, by omega, by go_num, hI, hz, unhide H3⟩
          case measure => simp [intOf]; omega
      · go_wp2
        go_roundw
        case rel => exact ⟨k + 1, by omega, by go_num, hI, hz, unhide H3⟩
        case measure => simp [intOf]; omega
    · go_wp2_with (go_at_call 12; refine (unhide H2 wr hI hz).mono ?_; rintro e w' ⟨rfl, hb'⟩)
      go_ret
      exact ⟨rfl, hb.trans hb'⟩

set_option maxHeartbeats 400000 in
theorem plays_none (lo hi : Int) (w : World) (a : Option Addr) (cap : Nat)
    (hends : ∀ wr, wr = w.alloc (.cells #[.slice none 0 0] 28) → Calls Tryz.prog 12 #[.pointer (some ⟨w.heap.size, 0, none⟩)] wr fun e w' => e = .returned (.bool true) ∧ Below w.heap.size wr w') :
    Calls Tryz.prog 10 #[.slice a 0 cap, .int .i64 lo, .int .i64 hi] w fun e w' => e = .returned (.bool true) ∧ Below w.heap.size w w' := by
  have H2 := hide hends
  clear hends
  go_enter Tryz.func10, Tryz.ntmps10
  go_wp2
  go_loop [8] (fun i => i = .int .i64 0) (fun _ => 0)
  case atStart => rfl
  case round =>
    subst hrel
    go_wp2_with (go_at_call 12; refine (unhide H2 _ rfl).mono ?_; rintro e w' ⟨rfl, hb'⟩)
    go_ret
    exact ⟨rfl, ((Below.refl _ _).alloc (Nat.le_refl _) _).trans hb'⟩

/-- A SCRIPT THAT CAME IN: of no step, or a row of steps. -/
def IsScript (w : World) (a : Option Addr) (len : Nat) (O : Nat → OpV) : Prop :=
  len = 0 ∨ (len ≤ 9223372036854775807 ∧ ∃ blk off, a = some ⟨blk, off, none⟩ ∧ Script w blk off len O ∧ ∀ i, i < len → (O i).Ok)

/-- What is kept: a world's machines. -/
theorem plays_script (lo hi : Int) (w : World) (a : Option Addr) (len cap : Nat) (O : Nat → OpV) (I : World → Prop)
    (hS : IsScript w a len O)
    (hstart : I (w.alloc (.cells #[.slice none 0 0] 28)))
    (hstep : ∀ o wr, OpV.Ok o → lo ≤ o.kind → o.kind ≤ hi → I wr → w.heap.size < wr.heap.size → Calls Tryz.prog 11 #[.pointer (some ⟨w.heap.size, 0, none⟩), o.val] wr fun e w' => e = .returned (.bool true) ∧ I w' ∧ Below w.heap.size wr w')
    (hends : ∀ wr, I wr → w.heap.size < wr.heap.size → Calls Tryz.prog 12 #[.pointer (some ⟨w.heap.size, 0, none⟩)] wr fun e w' => e = .returned (.bool true) ∧ Below w.heap.size wr w') :
    Calls Tryz.prog 10 #[.slice a len cap, .int .i64 lo, .int .i64 hi] w fun e w' => e = .returned (.bool true) ∧ Below w.heap.size w w' := by
  rcases hS with rfl | ⟨hl, blk, off, rfl, hS, hO⟩
  · exact plays_none lo hi w a cap (fun wr h => by subst h; exact hends _ hstart (by simp))
  · exact plays_any lo hi w blk off len cap O I hS hl hstart (fun i wr hi' h1 h2 hI hz => hstep (O i) wr (hO i hi') h1 h2 hI hz) hends

/-- The laws that make no machine: the world keeps none. -/
theorem plays_plain (lo hi : Int) (w : World) (a : Option Addr) (len cap : Nat) (O : Nat → OpV) (hS : IsScript w a len O)
    (hends : ∀ (B : Nat) (wr : World), wr.cell? ⟨B, 0, none⟩ = some (.slice none 0 0) → Calls Tryz.prog 12 #[.pointer (some ⟨B, 0, none⟩)] wr fun e w' => e = .returned (.bool true) ∧ Below B wr w')
    (hstep : ∀ o p wr, OpV.Ok o → lo ≤ o.kind → o.kind ≤ hi → Calls Tryz.prog 11 #[p, o.val] wr fun e w' => e = .returned (.bool true) ∧ Below wr.heap.size wr w') :
    Calls Tryz.prog 10 #[.slice a len cap, .int .i64 lo, .int .i64 hi] w fun e w' => e = .returned (.bool true) ∧ Below w.heap.size w w' := by
  refine plays_script lo hi w a len cap O (fun wr => wr.cell? ⟨w.heap.size, 0, none⟩ = some (.slice none 0 0)) hS (by simp) ?_ (fun wr h _ => hends _ wr h)
  intro o wr ho h1 h2 hI hz
  refine (hstep o _ wr ho h1 h2).mono ?_
  rintro e w' ⟨rfl, hb⟩
  exact ⟨rfl, by rw [hb.cell (p := ⟨w.heap.size, 0, none⟩) hz]; exact hI, hb.mono (Nat.le_of_lt hz)⟩

set_option maxHeartbeats 400000 in
theorem ends_none (B : Nat) (w : World) (h : w.cell? ⟨B, 0, none⟩ = some (.slice none 0 0)) :
    Calls Tryz.prog 12 #[.pointer (some ⟨B, 0, none⟩)] w fun e w' => e = .returned (.bool true) ∧ Below B w w' := by
  go_enter Tryz.func12, Tryz.ntmps12
  go_wp2
  go_loop [3] (fun i => i = .int .i64 0) (fun _ => 0)
  case atStart => rfl
  case round =>
    subst hrel
    go_wp2
    go_ret
    exact ⟨rfl, Below.refl _ _⟩
end Go.Proofs.YtcmoffiigpchiaaGreat

namespace Go.Proofs.YtcmoffiigpchiaaGreat
open Go.RowKit

/-- A BOX, as a world holds it. -/
structure Box (w : World) (b : Nat) (ca : Array Value) : Prop where
  c : ∀ o, w.cell? ⟨b, o, none⟩ = ca[o]?
  f : ∀ o, w.frozen? ⟨b, o, none⟩ = false
  lt : b < w.heap.size
theorem Box.new (w : World) (ca : Array Value) (t : TypeId) : Box (w.alloc (.cells ca t)) w.heap.size ca :=
  ⟨fun o => by go_simp, fun o => by go_simp, by simp⟩
theorem Box.next {w w1 : World} {b : Nat} {ca : Array Value} (h : Box w b ca) (hb : Below w.heap.size w w1) : Box w1 b ca :=
  ⟨fun o => by rw [hb.cell (p := ⟨b, o, none⟩) h.lt]; exact h.c o, fun o => by rw [hb.frozen (p := ⟨b, o, none⟩) h.lt]; exact h.f o, Nat.lt_of_lt_of_le h.lt hb.size⟩
theorem Box.alloc {w : World} {b : Nat} {ca : Array Value} (h : Box w b ca) (o : Obj) : Box (w.alloc o) b ca := h.next ((Below.refl _ _).alloc (Nat.le_refl _) o)

theorem Box.drew {w : World} {b : Nat} {ca : Array Value} (h : Box w b ca) : Box w.drew b ca := ⟨h.c, h.f, h.lt⟩

theorem bel_undrew {a w : World} (h : Below a.drew.heap.size a.drew w) : Below a.heap.size a w := ⟨h.os, h.tape, h.output, h.size, h.block⟩
theorem bel_then {a b c : World} (h : Below a.heap.size a b) (k : Below b.heap.size b c) : Below a.heap.size a c := h.trans (k.mono h.size)

/-- All but some blocks are as they were. -/
structure Keeps (w w' : World) (own : List Nat) : Prop where
  os : w'.os = w.os
  tape : w'.tape = w.tape
  output : w'.output = w.output
  size : w.heap.size ≤ w'.heap.size
  block : ∀ k, k < w.heap.size → k ∉ own → w'.heap[k]? = w.heap[k]?

theorem Keeps.refl (w : World) (own : List Nat) : Keeps w w own := ⟨rfl, rfl, rfl, Nat.le_refl _, fun _ _ _ => rfl⟩
theorem Keeps.drewN {w w' : World} {own : List Nat} (h : Keeps w w' own) (n : Nat) : Keeps w (w'.drewN n) own := ⟨h.os, h.tape, h.output, h.size, h.block⟩
theorem Keeps.setCell {w w' : World} {own : List Nat} (h : Keeps w w' own) {a : Addr} (ha : a.block ∈ own) (u : Value) : Keeps w (w'.setCell a u) own :=
  ⟨h.os, h.tape, h.output, by simpa using h.size, fun k hk hn => by rw [Below.heap_setCell w' a u k (fun e => hn (e ▸ ha))]; exact h.block k hk hn⟩

theorem Box.set {w : World} {b : Nat} {ca : Array Value} (h : Box w b ca) (i : Nat) (v : Value) (hi : i < ca.size) : Box (w.setCell ⟨b, i, none⟩ v) b (ca.setIfInBounds i v) := by
  refine ⟨fun o => ?_, fun o => ?_, by simpa using h.lt⟩
  · by_cases e : i = o
    · subst e
      rw [World.cell?_setCell_same _ _ _ (h.c i ▸ Array.getElem?_eq_getElem hi)]
      simp [hi]
    · rw [World.cell?_setCell_other _ _ _ _ (by simp; try omega), h.c o]
      simp [e]
  · go_simp; exact h.f o
theorem Box.drewN {w : World} {b : Nat} {ca : Array Value} (h : Box w b ca) (n : Nat) : Box (w.drewN n) b ca := ⟨h.c, h.f, h.lt⟩
theorem Keeps.trans {a b c : World} {o : List Nat} (h : Keeps a b o) (k : Keeps b c o) : Keeps a c o :=
  ⟨k.os.trans h.os, k.tape.trans h.tape, k.output.trans h.output, Nat.le_trans h.size k.size, fun i hi hn => (k.block i (Nat.lt_of_lt_of_le hi h.size) hn).trans (h.block i hi hn)⟩
theorem Keeps.mono {a b : World} {o o' : List Nat} (h : Keeps a b o) (ho : ∀ k ∈ o, k ∈ o') : Keeps a b o' :=
  ⟨h.os, h.tape, h.output, h.size, fun i hi hn => h.block i hi (fun e => hn (ho i e))⟩
theorem keeps_of {a b : World} (h : Below a.heap.size a b) (o : List Nat) : Keeps a b o := ⟨h.os, h.tape, h.output, h.size, fun k hk _ => h.block k hk⟩
theorem grown_keeps {a b : World} {g : Nat} (h : a.grownBy b (some g)) {o : List Nat} (hg : g ∈ o) : Keeps a b o :=
  ⟨h.os, h.tape, h.output, h.size, fun k hk hn => h.block k hk (fun e => hn (by cases e; exact hg))⟩
theorem Box.keeps {w w' : World} {b : Nat} {ca : Array Value} {o : List Nat} (h : Box w b ca) (k : Keeps w w' o) (hb : b ∉ o) : Box w' b ca :=
  ⟨fun i => by rw [World.cell?_of_block (w := w) (k.block b h.lt hb)]; exact h.c i, fun i => by rw [World.frozen?_of_block (w := w) (k.block b h.lt hb)]; exact h.f i, Nat.lt_of_lt_of_le h.lt k.size⟩
theorem Keeps.alloc {w w' : World} {o : List Nat} (h : Keeps w w' o) (X : Obj) : Keeps w (w'.alloc X) o :=
  h.trans (keeps_of ((Below.refl _ _).alloc (Nat.le_refl _) X) _)


end Go.Proofs.YtcmoffiigpchiaaGreat

namespace Go.Proofs.YtcmoffiigpchiaaGreat
open Go.RowKit

theorem putR_arr (a0 a1 a2 a3 a4 a5 a6 a7 a8 v0 v1 v2 v3 v4 v5 v6 v7 v8 : Value) : (((((((((#[a0, a1, a2, a3, a4, a5, a6, a7, a8].setIfInBounds 0 v0).setIfInBounds 1 v1).setIfInBounds 2 v2).setIfInBounds 3 v3).setIfInBounds 4 v4).setIfInBounds 5 v5).setIfInBounds 6 v6).setIfInBounds 7 v7).setIfInBounds 8 v8) = #[v0, v1, v2, v3, v4, v5, v6, v7, v8] := by simp
theorem nine_boxR {w : World} {b : Nat} {a0 a1 a2 a3 a4 a5 a6 a7 a8 : Value} (h : Box w b #[a0, a1, a2, a3, a4, a5, a6, a7, a8]) (v0 v1 v2 v3 v4 v5 v6 v7 v8 : Value) :
    Box (((((((((w.setCell ⟨b, 0, none⟩ v0).setCell ⟨b, 1, none⟩ v1).setCell ⟨b, 2, none⟩ v2).setCell ⟨b, 3, none⟩ v3).setCell ⟨b, 4, none⟩ v4).setCell ⟨b, 5, none⟩ v5).setCell ⟨b, 6, none⟩ v6).setCell ⟨b, 7, none⟩ v7).setCell ⟨b, 8, none⟩ v8) b #[v0, v1, v2, v3, v4, v5, v6, v7, v8] := by
  rw [← putR_arr a0 a1 a2 a3 a4 a5 a6 a7 a8 v0 v1 v2 v3 v4 v5 v6 v7 v8]
  exact (((((((((h.set 0 v0 (by simp)).set 1 v1 (by simp)).set 2 v2 (by simp)).set 3 v3 (by simp)).set 4 v4 (by simp)).set 5 v5 (by simp)).set 6 v6 (by simp)).set 7 v7 (by simp)).set 8 v8 (by simp))
theorem bel_drewN {k : Nat} {w w1 : World} (h : Below k w w1) (n : Nat) : Below k w (w1.drewN n) := ⟨h.os, h.tape, h.output, h.size, h.block⟩
theorem three_arr (a0 a1 a2 v0 v1 v2 : Value) : (((#[a0, a1, a2].setIfInBounds 0 v0).setIfInBounds 1 v1).setIfInBounds 2 v2) = #[v0, v1, v2] := by simp
theorem Box.put3 {w : World} {b : Nat} {a0 a1 a2 : Value} (h : Box w b #[a0, a1, a2]) (v0 v1 v2 : Value) :
    Box (((w.setCell ⟨b, 0, none⟩ v0).setCell ⟨b, 1, none⟩ v1).setCell ⟨b, 2, none⟩ v2) b #[v0, v1, v2] := by
  rw [← three_arr a0 a1 a2 v0 v1 v2]
  exact ((h.set 0 v0 (by simp)).set 1 v1 (by simp)).set 2 v2 (by simp)
end Go.Proofs.YtcmoffiigpchiaaGreat
