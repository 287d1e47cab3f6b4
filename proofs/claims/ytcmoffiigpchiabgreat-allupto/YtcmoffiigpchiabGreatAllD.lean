import Derived.Test.YtcmoffiigpchiabGreatAllA
namespace Go.Proofs.YtcmoffiigpchiabGreat
open Go.RowKit

set_option maxRecDepth 100000 in
set_option maxHeartbeats 2000000 in
theorem step_own13 (B k : Nat) (o : OpV) (hk : o.kind = 13) (r cap n : Nat) (hn : 0 < n) (P : Nat → PV) (wr : World) (h : Worlds wr B k (.slice (some ⟨r, 0, none⟩) n cap) n P) (hnl : (n : Int) ≤ 9223372036854775807) :
    Calls Tryz.prog 5 #[.pointer (some ⟨B, 0, none⟩), o.val] wr fun e w' => e = .returned (.bool true) ∧ WInv B (k + 1) w' ∧ Below B wr w' := by
  have HW := hide h
  have hB := h.box.lt
  have hrl := (h.row.lt r rfl).2
  have hrB := (h.row.lt r rfl).1
  obtain ⟨c0, f0, g0⟩ := h.box
  have hj := pickN_lt o.m hn
  have hcell : wr.cell? ⟨r, pickN o.m n, none⟩ = some (.pointer (some ⟨(P (pickN o.m n)).pb, 0, none⟩)) := by
    have := h.row.cells (g := r) rfl (pickN o.m n) (.pointer (some ⟨(P (pickN o.m n)).pb, 0, none⟩)) (by simp [rowP, hj])
    rwa [Addr.add_mid, Nat.zero_add] at this
  have hlen := h.len _ hj
  have HP := hide (pick_law o.m n)
  have HM := hide (fun W (_ : B < W.heap.size) hL => own_any B (P (pickN o.m n)) o (by omega) (by omega) W hL)
  have FIN := hide (fun (W w' : World) (kw : Keeps wr W []) (hl : Left W w' B (P (pickN o.m n))) => show WInv B (k + 1) w' ∧ Below B wr w' from by
    obtain ⟨a1, a2⟩ := ((unhide HW).keeps0 kw).left hj hl
    exact ⟨a1, (below_of0 kw (by omega)).trans a2⟩)
  have HLW := hide (fun (W : World) (kw : Keeps wr W []) => ((unhide HW).keeps0 kw).lies _ hj)
  clear h hlen
  generalize pickN o.m n = j at *
  generalize P j = pj at *
  have nb1 : ¬ B = wr.heap.size := by omega
  have nb2 : ¬ wr.heap.size = B := by omega
  have nr1 : ¬ r = wr.heap.size := by omega
  have nr2 : ¬ wr.heap.size = r := by omega
  have hn0 : ¬ (n : Int) = 0 := by omega
  have hn1 : ((n : Int) == 0) = false := by simp; omega
  have hj1 : (j : Int) < (n : Int) := by omega
  have hj2 : (0 : Int) ≤ (j : Int) := by omega
  have HV : Hid (∀ κ, o.kind = κ → o.val = .agg #[.int .i64 κ, .int .i64 o.m, .string o.p, .string o.b, .int .i64 o.s.n, .int .i64 o.s.pc, .string o.s.regs, .string o.s.cells, .int .i64 o.s.clock, .int .i64 o.s.handler, .int .i64 o.s.back, .bool o.s.pending, .bool o.s.halted, .int .i64 o.c.input, .int .i64 o.c.ticks, .bool o.c.interrupt, .int .i64 o.x, .int .i64 o.y]) := hide (by rintro κ rfl; rfl)
  clear HW
  rw [unhide HV _ hk]
  rw [unhide HV _ hk] at HM
  clear HV
  generalize o.m = om at *
  go_enter Tryz.func5, Tryz.ntmps5
  go_upto_region 18 with fail
  go_region_held3 (fun w' => w'.cell? ⟨B, 0, none⟩ = some (.slice (some ⟨r, 0, none⟩) n cap) ∧ w'.cell? ⟨wr.heap.size, 1, none⟩ = some (.int .i64 om) ∧ w'.cell? ⟨r, j, none⟩ = some (.pointer (some ⟨pj.pb, 0, none⟩))) (first | go_keep | (go_simp; done)) (first | (go_at_call 14; refine (unhide HP _).mono ?_; rintro e w' ⟨rfl, rfl⟩))
  all_goals
    go_wp2_with fail
    refine (unhide HM _ (by simp; omega) (unhide HLW _ ((keeps_all wr _).trans (keeps_drew _)))).mono ?_
    rintro e w1 ⟨rfl, hl⟩
    have F := hide (unhide FIN _ w1 ((keeps_all wr _).trans (keeps_drew _)) hl)
    clear hl
    go_wp2_with fail
    go_ret
    exact ⟨rfl, unhide F⟩
end Go.Proofs.YtcmoffiigpchiabGreat
