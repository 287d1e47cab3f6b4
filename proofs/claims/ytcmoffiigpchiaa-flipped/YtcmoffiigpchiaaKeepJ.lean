import Derived.Test.YtcmoffiigpchiaaKeepI
namespace Go.Proofs.Ytcmoffiigpchiaa
open Go.RowKit
namespace Keep

set_option maxRecDepth 100000 in
set_option maxHeartbeats 1000000 in
theorem tells_k (B fb xb r cap : Nat) (p : ByteArray) (m : RM) (l : List StV) (sv : Int) (hs : m.s = lastOf l) (hl : 0 < l.length) (hu : l.length ≤ 10001) (w : World) (hF : FilmAt w B fb xb r cap p m l sv) :
    Calls Try.prog 11 #[.pointer (some ⟨fb, 0, none⟩)] w fun e w' => e = .returned (.bool true) ∧ Below w.heap.size w w' := by
  have HS := hide (fun W hW => state_code xb m W hW)
  have HSm := hide (same_k (lastOf l))
  have F1 := hide hF
  have HLS : Hid (∀ W, FilmAt W B fb xb r cap p m l sv → W.rangeAt r ((l.length - 1) * 9) (stC (lastOf l))) := hide (fun W hW => hW.last hl)
  rw [hs] at HS
  obtain ⟨ls, hls⟩ : ∃ ls, ls = lastOf l := ⟨_, rfl⟩
  rw [← hls] at HLS HS HSm
  clear hls hs
  obtain ⟨n0, pc0, regs0, cells0, clock0, handler0, back0, pending0, halted0⟩ := ls
  obtain ⟨c0, f0, g0⟩ := hF.box
  clear hF
  go_enter Try.func11, Try.ntmps11
  go_wp2_with fail
  refine (unhide HS _ (unhide F1).code).mono ?_
  rintro e w1 ⟨rfl, hb⟩
  have F2 := hide ((unhide F1).next hb)
  have L1 := hide hb
  clear hb c0 f0 g0
  obtain ⟨c2, f2, g2⟩ := (unhide F2).box
  have hrng := unhide HLS w1 (unhide F2)
  have hr3 := ((unhide F2).row.lt r rfl).2
  have l0 : w1.cell? ⟨r, (l.length - 1) * 9, none⟩ = some (.int .i64 n0) := hrng 0 _ rfl
  have l1 := hrng 1 _ rfl
  have l2 := hrng 2 _ rfl
  have l3 := hrng 3 _ rfl
  have l4 := hrng 4 _ rfl
  have l5 := hrng 5 _ rfl
  have l6 := hrng 6 _ rfl
  have l7 := hrng 7 _ rfl
  have l8 := hrng 8 _ rfl
  clear hrng
  have hlw : IntKind.i64.wrap ((l.length : Int) - 1) = ((l.length - 1 : Nat) : Int) := by
    have := i64_wrap_nat (l.length - 1) (by omega)
    rwa [show ((l.length - 1 : Nat) : Int) = (l.length : Int) - 1 by omega] at this ⊢
  have nb1 : ¬ fb = w1.heap.size := by omega
  have nb2 : ¬ w1.heap.size = fb := by omega
  have nb3 : ¬ r = w1.heap.size := by omega
  have nb4 : ¬ w1.heap.size = r := by omega
  have hl1 : l.length - 1 < l.length := by omega
  generalize hLd : l.length - 1 = ld at *
  have HLd := hide hLd
  clear hLd
  have hld1 : (ld : Int) < (l.length : Int) := by omega
  go_upto_region 2 with fail
  go_region_held3 (fun w' => w'.cell? ⟨fb, 2, none⟩ = some (.slice (some ⟨r, 0, none⟩) l.length cap) ∧ w'.cell? ⟨w1.heap.size, 0, none⟩ = some (.int .i64 n0) ∧ w'.cell? ⟨w1.heap.size, 1, none⟩ = some (.int .i64 pc0) ∧ w'.cell? ⟨w1.heap.size, 2, none⟩ = some (.string regs0) ∧ w'.cell? ⟨w1.heap.size, 3, none⟩ = some (.string cells0) ∧ w'.cell? ⟨w1.heap.size, 4, none⟩ = some (.int .i64 clock0) ∧ w'.cell? ⟨w1.heap.size, 5, none⟩ = some (.int .i64 handler0) ∧ w'.cell? ⟨w1.heap.size, 6, none⟩ = some (.int .i64 back0) ∧ w'.cell? ⟨w1.heap.size, 7, none⟩ = some (.bool pending0) ∧ w'.cell? ⟨w1.heap.size, 8, none⟩ = some (.bool halted0) ∧ w'.cell? ⟨r, ld * 9, none⟩ = some (.int .i64 n0) ∧ w'.cell? ⟨r, ld * 9 + 1, none⟩ = some (.int .i64 pc0) ∧ w'.cell? ⟨r, ld * 9 + 2, none⟩ = some (.string regs0) ∧ w'.cell? ⟨r, ld * 9 + 3, none⟩ = some (.string cells0) ∧ w'.cell? ⟨r, ld * 9 + 4, none⟩ = some (.int .i64 clock0) ∧ w'.cell? ⟨r, ld * 9 + 5, none⟩ = some (.int .i64 handler0) ∧ w'.cell? ⟨r, ld * 9 + 6, none⟩ = some (.int .i64 back0) ∧ w'.cell? ⟨r, ld * 9 + 7, none⟩ = some (.bool pending0) ∧ w'.cell? ⟨r, ld * 9 + 8, none⟩ = some (.bool halted0)) (first | go_keep | (go_simp; done)) (first | (go_at_call 24; refine (unhide HSm _).mono ?_; rintro e w2 ⟨rfl, hb⟩; have L2 := hide (bel_alloc (bel_undrew hb)); have S2 := hide ((Box.new w1 _ _).drew.next hb); clear hb; have F3 := hide ((unhide F2).next (unhide L2)); have hrng := unhide HLS w2 (unhide F3); have l0 : w2.cell? ⟨r, ld * 9, none⟩ = some (.int .i64 n0) := hrng 0 _ rfl; have l1 := hrng 1 _ rfl; have l2 := hrng 2 _ rfl; have l3 := hrng 3 _ rfl; have l4 := hrng 4 _ rfl; have l5 := hrng 5 _ rfl; have l6 := hrng 6 _ rfl; have l7 := hrng 7 _ rfl; have l8 := hrng 8 _ rfl; clear hrng; obtain ⟨c3, f3, g3⟩ := (unhide F3).box; obtain ⟨c4, f4, g4⟩ := unhide S2))
  all_goals
    go_wp2_with fail
    go_ret
    exact ⟨rfl, bel_then (unhide L1) (unhide L2)⟩
end Keep
end Go.Proofs.Ytcmoffiigpchiaa
