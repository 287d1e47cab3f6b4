import Derived.Test.YtcmoffiigpchiaaGreatPlays
namespace Go.Proofs.YtcmoffiigpchiaaGreat
open Go.RowKit

set_option maxHeartbeats 400000 in
/-- A script is played, the steps counted. -/
theorem plays_num (lo hi : Int) (w : World) (blk off len cap : Nat) (O : Nat → OpV) (I : Nat → World → Prop)
    (hS : Script w blk off len O) (hlen : len ≤ 9223372036854775807)
    (hstart : I 0 (w.alloc (.cells #[.slice none 0 0] 28)))
    (hmono : ∀ k wr, I k wr → I (k + 1) wr)
    (hstep : ∀ i wr, i < len → lo ≤ (O i).kind → (O i).kind ≤ hi → I i wr → w.heap.size < wr.heap.size → Calls Tryz.prog 11 #[.pointer (some ⟨w.heap.size, 0, none⟩), (O i).val] wr fun e w' => e = .returned (.bool true) ∧ I (i + 1) w' ∧ Below w.heap.size wr w')
    (hends : ∀ wr, I len wr → w.heap.size < wr.heap.size → Calls Tryz.prog 12 #[.pointer (some ⟨w.heap.size, 0, none⟩)] wr fun e w' => e = .returned (.bool true) ∧ Below w.heap.size wr w') :
    Calls Tryz.prog 10 #[.slice (some ⟨blk, off, none⟩) len cap, .int .i64 lo, .int .i64 hi] w fun e w' => e = .returned (.bool true) ∧ Below w.heap.size w w' := by
  have HS := hide hS
  have H1 := hide hstep
  have H2 := hide hends
  have HM := hide hmono
  clear hS hstep hends hmono
  go_enter Tryz.func10, Tryz.ntmps10
  go_wp2
  go_loopw [8] (fun i wr => ∃ k : Nat, k ≤ len ∧ i = .int .i64 k ∧ I k wr ∧ w.heap.size < wr.heap.size ∧ Below w.heap.size w wr) (fun i _ => len - (intOf i).toNat)
  case atStart => exact ⟨0, Nat.zero_le _, rfl, hstart, by simp, (Below.refl _ _).alloc (Nat.le_refl _) _⟩
  case round =>
    obtain ⟨k, hk, rfl, hI0, hz, hb⟩ := hrel
    have hI := hide hI0
    clear hI0
    by_cases hlt : k < len
    · have hc := rangeAt_below hb (unhide HS).lt ((unhide HS).lies k hlt)
      have hc0 : wr.cell? ⟨blk, off + k * 18, none⟩ = some (.int .i64 (O k).kind) := hc 0 _ rfl
      have HC := hide hc
      have H3 := hide hb
      clear hb hc
      by_cases hlo : lo ≤ (O k).kind
      · by_cases hhi : (O k).kind ≤ hi
        · go_wp2_with (first | (refine wpList_load_mid rfl 34 _ rfl blk (off + k * 18) rfl (O k).cells _ (unhide HC) Tryz.underlying34 rfl (by kernel_rfl) ?_) | (go_at_call 11; refine (unhide H1 k wr hlt hlo hhi (unhide hI) hz).mono ?_; rintro e w' ⟨rfl, hI', hb'⟩))
          go_roundw
          case rel => exact ⟨k + 1, by omega, by go_num, hI', Nat.lt_of_lt_of_le hz hb'.size, (unhide H3).trans hb'⟩
          case measure => simp [intOf]; omega
        · go_wp2
          go_roundw
          case rel => exact ⟨k + 1, by omega, by go_num, unhide HM k wr (unhide hI), hz, unhide H3⟩
          case measure => simp [intOf]; omega
      · go_wp2
        go_roundw
        case rel => exact ⟨k + 1, by omega, by go_num, unhide HM k wr (unhide hI), hz, unhide H3⟩
        case measure => simp [intOf]; omega
    · have hkl : k = len := by omega
      subst hkl
      go_wp2_with (go_at_call 12; refine (unhide H2 wr (unhide hI) hz).mono ?_; rintro e w' ⟨rfl, hb'⟩)
      go_ret
      exact ⟨rfl, hb.trans hb'⟩

theorem plays_nums (lo hi : Int) (w : World) (a : Option Addr) (len cap : Nat) (O : Nat → OpV) (I : Nat → World → Prop)
    (hS : IsScript w a len O)
    (hstart : I 0 (w.alloc (.cells #[.slice none 0 0] 28)))
    (hmono : ∀ k wr, I k wr → I (k + 1) wr)
    (hstep : ∀ k o wr, k < len → OpV.Ok o → lo ≤ o.kind → o.kind ≤ hi → I k wr → Calls Tryz.prog 11 #[.pointer (some ⟨w.heap.size, 0, none⟩), o.val] wr fun e w' => e = .returned (.bool true) ∧ I (k + 1) w' ∧ Below w.heap.size wr w')
    (hends : ∀ wr, I len wr → Calls Tryz.prog 12 #[.pointer (some ⟨w.heap.size, 0, none⟩)] wr fun e w' => e = .returned (.bool true) ∧ Below w.heap.size wr w') :
    Calls Tryz.prog 10 #[.slice a len cap, .int .i64 lo, .int .i64 hi] w fun e w' => e = .returned (.bool true) ∧ Below w.heap.size w w' := by
  rcases hS with rfl | ⟨hl, blk, off, rfl, hS, hO⟩
  · exact plays_none lo hi w a cap (fun wr h => by subst h; exact hends _ hstart)
  · exact plays_num lo hi w blk off len cap O I hS hl hstart hmono (fun i wr hi' h1 h2 hI _ => hstep i (O i) wr hi' (hO i hi') h1 h2 hI) (fun wr hI _ => hends wr hI)
end Go.Proofs.YtcmoffiigpchiaaGreat
