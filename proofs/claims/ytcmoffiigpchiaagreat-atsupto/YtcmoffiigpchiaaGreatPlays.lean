import Derived.Test.YtcmoffiigpchiaaGreatBase
import Derived.Deep.MidRow
namespace Go.Proofs.YtcmoffiigpchiaaGreat
open Go.RowKit

theorem bel_alloc {w w' : World} {o : Obj} (h : Below (w.alloc o).heap.size (w.alloc o) w') : Below w.heap.size w w' :=
  ((Below.refl _ _).alloc (Nat.le_refl _) o).trans (h.mono (by simp))

/-- A script, as it lies. -/
structure Script (w : World) (blk off len : Nat) (O : Nat → OpV) : Prop where
  lt : blk < w.heap.size
  lies : ∀ i, i < len → w.rangeAt blk (off + i * 18) (O i).cells

theorem rangeAt_below {B : Nat} {w w' : World} (h : Below B w w') {b o : Nat} {cs : List Value} (hb : b < B) (hc : w.rangeAt b o cs) : w'.rangeAt b o cs :=
  fun j v hv => by rw [h.cell (p := ⟨b, o + j, none⟩) hb]; exact hc j v hv

set_option maxHeartbeats 400000 in
theorem plays_any (lo hi : Int) (w : World) (blk off len cap : Nat) (O : Nat → OpV) (I : World → Prop)
    (hS : Script w blk off len O) (hlen : len ≤ 9223372036854775807)
    (hstart : I (w.alloc (.cells #[.slice none 0 0] 28)))
    (hstep : ∀ i wr, i < len → lo ≤ (O i).kind → (O i).kind ≤ hi → I wr → w.heap.size < wr.heap.size → Calls Tryz.prog 11 #[.pointer (some ⟨w.heap.size, 0, none⟩), (O i).val] wr fun e w' => e = .returned (.bool true) ∧ I w' ∧ Below w.heap.size wr w')
    (hends : ∀ wr, I wr → w.heap.size < wr.heap.size → Calls Tryz.prog 12 #[.pointer (some ⟨w.heap.size, 0, none⟩)] wr fun e w' => e = .returned (.bool true) ∧ Below w.heap.size wr w') :
    Calls Tryz.prog 10 #[.slice (some ⟨blk, off, none⟩) len cap, .int .i64 lo, .int .i64 hi] w fun e w' => e = .returned (.bool true) ∧ Below w.heap.size w w' := by
  have HS := hide hS
  have H1 := hide hstep
  have H2 := hide hends
  clear hS hstep hends
  go_enter Tryz.func10, Tryz.ntmps10
  go_wp2
  go_loopw [8] (fun i wr => ∃ k : Nat, k ≤ len ∧ i = .int .i64 k ∧ I wr ∧ w.heap.size < wr.heap.size ∧ Below w.heap.size w wr) (fun i _ => len - (intOf i).toNat)
  case atStart => exact ⟨0, Nat.zero_le _, rfl, hstart, by simp, (Below.refl _ _).alloc (Nat.le_refl _) _⟩
  case round =>
    obtain ⟨k, hk, rfl, hI, hz, hb⟩ := hrel
    by_cases hlt : k < len
    · have hc := rangeAt_below hb (unhide HS).lt ((unhide HS).lies k hlt)
      have hc0 : wr.cell? ⟨blk, off + k * 18, none⟩ = some (.int .i64 (O k).kind) := hc 0 _ rfl
      have HC := hide hc
      have H3 := hide hb
      clear hb hc
      by_cases hlo : lo ≤ (O k).kind
      · by_cases hhi : (O k).kind ≤ hi
        · go_wp2_with (first | (refine wpList_load_mid rfl 34 _ rfl blk (off + k * 18) rfl (O k).cells _ (unhide HC) Tryz.underlying34 rfl (by kernel_rfl) ?_) | (go_at_call 11; refine (unhide H1 k wr hlt hlo hhi hI hz).mono ?_; rintro e w' ⟨rfl, hI', hb'⟩))
          go_roundw
          case rel => exact ⟨k + 1, by omega, by go_num, hI', Nat.lt_of_lt_of_le hz hb'.size, (unhide H3).trans hb'⟩
          case measure => simp [intOf]; omega
        · go_wp2
          go_roundw
          case rel => exact ⟨k + 1, by omega, by go_num, hI, hz, unhide H3⟩
          case measure => simp [intOf]; omega
      · go_wp2
        go_roundw
        case rel => exact ⟨k + 1, by omega, by go_num, hI, hz, unhide H3⟩
        case measure => simp [intOf]; omega
    · go_wp2_with (go_at_call 12; refine (unhide H2 wr hI hz).mono ?_; rintro e w' ⟨rfl, hb'⟩)
      go_ret
      exact ⟨rfl, hb.trans hb'⟩

set_option maxHeartbeats 400000 in
theorem plays_none (lo hi : Int) (w : World) (a : Option Addr) (cap : Nat)
    (hends : ∀ wr, wr = w.alloc (.cells #[.slice none 0 0] 28) → Calls Tryz.prog 12 #[.pointer (some ⟨w.heap.size, 0, none⟩)] wr fun e w' => e = .returned (.bool true) ∧ Below w.heap.size wr w') :
    Calls Tryz.prog 10 #[.slice a 0 cap, .int .i64 lo, .int .i64 hi] w fun e w' => e = .returned (.bool true) ∧ Below w.heap.size w w' := by
  have H2 := hide hends
  clear hends
  go_enter Tryz.func10, Tryz.ntmps10
  go_wp2
  go_loop [8] (fun i => i = .int .i64 0) (fun _ => 0)
  case atStart => rfl
  case round =>
    subst hrel
    go_wp2_with (go_at_call 12; refine (unhide H2 _ rfl).mono ?_; rintro e w' ⟨rfl, hb'⟩)
    go_ret
    exact ⟨rfl, ((Below.refl _ _).alloc (Nat.le_refl _) _).trans hb'⟩

/-- A SCRIPT THAT CAME IN: of no step, or a row of steps. -/
def IsScript (w : World) (a : Option Addr) (len : Nat) (O : Nat → OpV) : Prop :=
  len = 0 ∨ (len ≤ 9223372036854775807 ∧ ∃ blk off, a = some ⟨blk, off, none⟩ ∧ Script w blk off len O ∧ ∀ i, i < len → (O i).Ok)

/-- What is kept: a world's machines. -/
theorem plays_script (lo hi : Int) (w : World) (a : Option Addr) (len cap : Nat) (O : Nat → OpV) (I : World → Prop)
    (hS : IsScript w a len O)
    (hstart : I (w.alloc (.cells #[.slice none 0 0] 28)))
    (hstep : ∀ o wr, OpV.Ok o → lo ≤ o.kind → o.kind ≤ hi → I wr → w.heap.size < wr.heap.size → Calls Tryz.prog 11 #[.pointer (some ⟨w.heap.size, 0, none⟩), o.val] wr fun e w' => e = .returned (.bool true) ∧ I w' ∧ Below w.heap.size wr w')
    (hends : ∀ wr, I wr → w.heap.size < wr.heap.size → Calls Tryz.prog 12 #[.pointer (some ⟨w.heap.size, 0, none⟩)] wr fun e w' => e = .returned (.bool true) ∧ Below w.heap.size wr w') :
    Calls Tryz.prog 10 #[.slice a len cap, .int .i64 lo, .int .i64 hi] w fun e w' => e = .returned (.bool true) ∧ Below w.heap.size w w' := by
  rcases hS with rfl | ⟨hl, blk, off, rfl, hS, hO⟩
  · exact plays_none lo hi w a cap (fun wr h => by subst h; exact hends _ hstart (by simp))
  · exact plays_any lo hi w blk off len cap O I hS hl hstart (fun i wr hi' h1 h2 hI hz => hstep (O i) wr (hO i hi') h1 h2 hI hz) hends

/-- The laws that make no machine: the world keeps none. -/
theorem plays_plain (lo hi : Int) (w : World) (a : Option Addr) (len cap : Nat) (O : Nat → OpV) (hS : IsScript w a len O)
    (hends : ∀ (B : Nat) (wr : World), wr.cell? ⟨B, 0, none⟩ = some (.slice none 0 0) → Calls Tryz.prog 12 #[.pointer (some ⟨B, 0, none⟩)] wr fun e w' => e = .returned (.bool true) ∧ Below B wr w')
    (hstep : ∀ o p wr, OpV.Ok o → lo ≤ o.kind → o.kind ≤ hi → Calls Tryz.prog 11 #[p, o.val] wr fun e w' => e = .returned (.bool true) ∧ Below wr.heap.size wr w') :
    Calls Tryz.prog 10 #[.slice a len cap, .int .i64 lo, .int .i64 hi] w fun e w' => e = .returned (.bool true) ∧ Below w.heap.size w w' := by
  refine plays_script lo hi w a len cap O (fun wr => wr.cell? ⟨w.heap.size, 0, none⟩ = some (.slice none 0 0)) hS (by simp) ?_ (fun wr h _ => hends _ wr h)
  intro o wr ho h1 h2 hI hz
  refine (hstep o _ wr ho h1 h2).mono ?_
  rintro e w' ⟨rfl, hb⟩
  exact ⟨rfl, by rw [hb.cell (p := ⟨w.heap.size, 0, none⟩) hz]; exact hI, hb.mono (Nat.le_of_lt hz)⟩

set_option maxHeartbeats 400000 in
theorem ends_none (B : Nat) (w : World) (h : w.cell? ⟨B, 0, none⟩ = some (.slice none 0 0)) :
    Calls Tryz.prog 12 #[.pointer (some ⟨B, 0, none⟩)] w fun e w' => e = .returned (.bool true) ∧ Below B w w' := by
  go_enter Tryz.func12, Tryz.ntmps12
  go_wp2
  go_loop [3] (fun i => i = .int .i64 0) (fun _ => 0)
  case atStart => rfl
  case round =>
    subst hrel
    go_wp2
    go_ret
    exact ⟨rfl, Below.refl _ _⟩
end Go.Proofs.YtcmoffiigpchiaaGreat
