import Derived.Test.YtcmoffiigpchiaaGreatPaL
namespace Go.Proofs.YtcmoffiigpchiaaGreat
open Go.RowKit

set_option maxRecDepth 100000 in
set_option maxHeartbeats 2000000 in
theorem step_some5 (RS : RefSteps) (B k : Nat) (o : OpV) (hk : o.kind = 5) (hbig : k < 2932031007300) (r cap n : Nat) (hn : 0 < n) (P : Nat → PV) (wr : World) (h : Worlds wr B k (.slice (some ⟨r, 0, none⟩) n cap) n P) (hnl : (n : Int) ≤ 9223372036854775807) :
    Calls Tryz.prog 11 #[.pointer (some ⟨B, 0, none⟩), o.val] wr fun e w' => e = .returned (.bool true) ∧ WInv B (k + 1) w' ∧ Below B wr w' := by
  have HW := hide h
  have hB := h.box.lt
  have hrl := (h.row.lt r rfl).2
  have hrB := (h.row.lt r rfl).1
  obtain ⟨c0, f0, g0⟩ := h.box
  have hj := pickN_lt o.m hn
  have hcell : wr.cell? ⟨r, pickN o.m n, none⟩ = some (.pointer (some ⟨(P (pickN o.m n)).pb, 0, none⟩)) := by
    have := h.row.cells (g := r) rfl (pickN o.m n) (.pointer (some ⟨(P (pickN o.m n)).pb, 0, none⟩)) (by simp [rowP, hj])
    rwa [Addr.add_mid, Nat.zero_add] at this
  have hlen := h.len _ hj
  have HP := hide (pick_law o.m n)
  have HM := hide (fun W hB hL => machine_any RS B (P (pickN o.m n)) o (by omega) (by omega) (by omega) W hB hL)
  have FIN := hide (fun (W w' : World) (kw : Keeps wr W []) (hl : Left W w' B (P (pickN o.m n))) => show WInv B (k + 1) w' ∧ Below B wr w' from by
    obtain ⟨a1, a2⟩ := ((unhide HW).keeps0 kw).left hj hl
    exact ⟨a1, (below_of0 kw (by omega)).trans a2⟩)
  have HLW := hide (fun (W : World) (kw : Keeps wr W []) => ((unhide HW).keeps0 kw).lies _ hj)
  clear h hlen
  generalize pickN o.m n = j at *
  generalize P j = pj at *
  have nb1 : ¬ B = wr.heap.size := by omega
  have nb2 : ¬ wr.heap.size = B := by omega
  have nr1 : ¬ r = wr.heap.size := by omega
  have nr2 : ¬ wr.heap.size = r := by omega
  have hn0 : ¬ (n : Int) = 0 := by omega
  have hn1 : ((n : Int) == 0) = false := by simp; omega
  have hj1 : (j : Int) < (n : Int) := by omega
  have hj2 : (0 : Int) ≤ (j : Int) := by omega
  have HV : Hid (∀ κ, o.kind = κ → o.val = .agg #[.int .i64 κ, .int .i64 o.m, .string o.p, .string o.b, .int .i64 o.s.n, .int .i64 o.s.pc, .string o.s.regs, .string o.s.cells, .int .i64 o.s.clock, .int .i64 o.s.handler, .int .i64 o.s.back, .bool o.s.pending, .bool o.s.halted, .int .i64 o.c.input, .int .i64 o.c.ticks, .bool o.c.interrupt, .int .i64 o.x, .int .i64 o.y]) := hide (by rintro κ rfl; rfl)
  clear HW
  rw [unhide HV _ hk]
  rw [unhide HV _ hk] at HM
  clear HV
  generalize o.m = om at *
  go_enter Tryz.func11, Tryz.ntmps11
  go_upto_region 18 with fail
  go_region_held3 (fun w' => w'.cell? ⟨B, 0, none⟩ = some (.slice (some ⟨r, 0, none⟩) n cap) ∧ w'.cell? ⟨wr.heap.size, 1, none⟩ = some (.int .i64 om) ∧ w'.cell? ⟨r, j, none⟩ = some (.pointer (some ⟨pj.pb, 0, none⟩))) (first | go_keep | (go_simp; done)) (first | (go_at_call 20; refine (unhide HP _).mono ?_; rintro e w' ⟨rfl, rfl⟩))
  all_goals
    go_wp2_with fail
    refine (unhide HM _ (by simp; omega) (unhide HLW _ ((keeps_all wr _).trans (keeps_drew _)))).mono ?_
    rintro e w1 ⟨rfl, hl⟩
    have F := hide (unhide FIN _ w1 ((keeps_all wr _).trans (keeps_drew _)) hl)
    clear hl
    go_wp2_with fail
    go_ret
    exact ⟨rfl, unhide F⟩
end Go.Proofs.YtcmoffiigpchiaaGreat

namespace Go.Proofs.YtcmoffiigpchiaaGreat
open Go.RowKit

set_option maxRecDepth 100000 in
set_option maxHeartbeats 2000000 in
theorem step_some6 (RS : RefSteps) (B k : Nat) (o : OpV) (hk : o.kind = 6) (hbig : k < 2932031007300) (r cap n : Nat) (hn : 0 < n) (P : Nat → PV) (wr : World) (h : Worlds wr B k (.slice (some ⟨r, 0, none⟩) n cap) n P) (hnl : (n : Int) ≤ 9223372036854775807) :
    Calls Tryz.prog 11 #[.pointer (some ⟨B, 0, none⟩), o.val] wr fun e w' => e = .returned (.bool true) ∧ WInv B (k + 1) w' ∧ Below B wr w' := by
  have HW := hide h
  have hB := h.box.lt
  have hrl := (h.row.lt r rfl).2
  have hrB := (h.row.lt r rfl).1
  obtain ⟨c0, f0, g0⟩ := h.box
  have hj := pickN_lt o.m hn
  have hcell : wr.cell? ⟨r, pickN o.m n, none⟩ = some (.pointer (some ⟨(P (pickN o.m n)).pb, 0, none⟩)) := by
    have := h.row.cells (g := r) rfl (pickN o.m n) (.pointer (some ⟨(P (pickN o.m n)).pb, 0, none⟩)) (by simp [rowP, hj])
    rwa [Addr.add_mid, Nat.zero_add] at this
  have hlen := h.len _ hj
  have HP := hide (pick_law o.m n)
  have HM := hide (fun W hB hL => machine_any RS B (P (pickN o.m n)) o (by omega) (by omega) (by omega) W hB hL)
  have FIN := hide (fun (W w' : World) (kw : Keeps wr W []) (hl : Left W w' B (P (pickN o.m n))) => show WInv B (k + 1) w' ∧ Below B wr w' from by
    obtain ⟨a1, a2⟩ := ((unhide HW).keeps0 kw).left hj hl
    exact ⟨a1, (below_of0 kw (by omega)).trans a2⟩)
  have HLW := hide (fun (W : World) (kw : Keeps wr W []) => ((unhide HW).keeps0 kw).lies _ hj)
  clear h hlen
  generalize pickN o.m n = j at *
  generalize P j = pj at *
  have nb1 : ¬ B = wr.heap.size := by omega
  have nb2 : ¬ wr.heap.size = B := by omega
  have nr1 : ¬ r = wr.heap.size := by omega
  have nr2 : ¬ wr.heap.size = r := by omega
  have hn0 : ¬ (n : Int) = 0 := by omega
  have hn1 : ((n : Int) == 0) = false := by simp; omega
  have hj1 : (j : Int) < (n : Int) := by omega
  have hj2 : (0 : Int) ≤ (j : Int) := by omega
  have HV : Hid (∀ κ, o.kind = κ → o.val = .agg #[.int .i64 κ, .int .i64 o.m, .string o.p, .string o.b, .int .i64 o.s.n, .int .i64 o.s.pc, .string o.s.regs, .string o.s.cells, .int .i64 o.s.clock, .int .i64 o.s.handler, .int .i64 o.s.back, .bool o.s.pending, .bool o.s.halted, .int .i64 o.c.input, .int .i64 o.c.ticks, .bool o.c.interrupt, .int .i64 o.x, .int .i64 o.y]) := hide (by rintro κ rfl; rfl)
  clear HW
  rw [unhide HV _ hk]
  rw [unhide HV _ hk] at HM
  clear HV
  generalize o.m = om at *
  go_enter Tryz.func11, Tryz.ntmps11
  go_upto_region 18 with fail
  go_region_held3 (fun w' => w'.cell? ⟨B, 0, none⟩ = some (.slice (some ⟨r, 0, none⟩) n cap) ∧ w'.cell? ⟨wr.heap.size, 1, none⟩ = some (.int .i64 om) ∧ w'.cell? ⟨r, j, none⟩ = some (.pointer (some ⟨pj.pb, 0, none⟩))) (first | go_keep | (go_simp; done)) (first | (go_at_call 20; refine (unhide HP _).mono ?_; rintro e w' ⟨rfl, rfl⟩))
  all_goals
    go_wp2_with fail
    refine (unhide HM _ (by simp; omega) (unhide HLW _ ((keeps_all wr _).trans (keeps_drew _)))).mono ?_
    rintro e w1 ⟨rfl, hl⟩
    have F := hide (unhide FIN _ w1 ((keeps_all wr _).trans (keeps_drew _)) hl)
    clear hl
    go_wp2_with fail
    go_ret
    exact ⟨rfl, unhide F⟩
end Go.Proofs.YtcmoffiigpchiaaGreat

namespace Go.Proofs.YtcmoffiigpchiaaGreat
open Go.RowKit

set_option maxRecDepth 100000 in
set_option maxHeartbeats 2000000 in
theorem step_some7 (RS : RefSteps) (B k : Nat) (o : OpV) (hk : o.kind = 7) (hbig : k < 2932031007300) (r cap n : Nat) (hn : 0 < n) (P : Nat → PV) (wr : World) (h : Worlds wr B k (.slice (some ⟨r, 0, none⟩) n cap) n P) (hnl : (n : Int) ≤ 9223372036854775807) :
    Calls Tryz.prog 11 #[.pointer (some ⟨B, 0, none⟩), o.val] wr fun e w' => e = .returned (.bool true) ∧ WInv B (k + 1) w' ∧ Below B wr w' := by
  have HW := hide h
  have hB := h.box.lt
  have hrl := (h.row.lt r rfl).2
  have hrB := (h.row.lt r rfl).1
  obtain ⟨c0, f0, g0⟩ := h.box
  have hj := pickN_lt o.m hn
  have hcell : wr.cell? ⟨r, pickN o.m n, none⟩ = some (.pointer (some ⟨(P (pickN o.m n)).pb, 0, none⟩)) := by
    have := h.row.cells (g := r) rfl (pickN o.m n) (.pointer (some ⟨(P (pickN o.m n)).pb, 0, none⟩)) (by simp [rowP, hj])
    rwa [Addr.add_mid, Nat.zero_add] at this
  have hlen := h.len _ hj
  have HP := hide (pick_law o.m n)
  have HM := hide (fun W hB hL => machine_any RS B (P (pickN o.m n)) o (by omega) (by omega) (by omega) W hB hL)
  have FIN := hide (fun (W w' : World) (kw : Keeps wr W []) (hl : Left W w' B (P (pickN o.m n))) => show WInv B (k + 1) w' ∧ Below B wr w' from by
    obtain ⟨a1, a2⟩ := ((unhide HW).keeps0 kw).left hj hl
    exact ⟨a1, (below_of0 kw (by omega)).trans a2⟩)
  have HLW := hide (fun (W : World) (kw : Keeps wr W []) => ((unhide HW).keeps0 kw).lies _ hj)
  clear h hlen
  generalize pickN o.m n = j at *
  generalize P j = pj at *
  have nb1 : ¬ B = wr.heap.size := by omega
  have nb2 : ¬ wr.heap.size = B := by omega
  have nr1 : ¬ r = wr.heap.size := by omega
  have nr2 : ¬ wr.heap.size = r := by omega
  have hn0 : ¬ (n : Int) = 0 := by omega
  have hn1 : ((n : Int) == 0) = false := by simp; omega
  have hj1 : (j : Int) < (n : Int) := by omega
  have hj2 : (0 : Int) ≤ (j : Int) := by omega
  have HV : Hid (∀ κ, o.kind = κ → o.val = .agg #[.int .i64 κ, .int .i64 o.m, .string o.p, .string o.b, .int .i64 o.s.n, .int .i64 o.s.pc, .string o.s.regs, .string o.s.cells, .int .i64 o.s.clock, .int .i64 o.s.handler, .int .i64 o.s.back, .bool o.s.pending, .bool o.s.halted, .int .i64 o.c.input, .int .i64 o.c.ticks, .bool o.c.interrupt, .int .i64 o.x, .int .i64 o.y]) := hide (by rintro κ rfl; rfl)
  clear HW
  rw [unhide HV _ hk]
  rw [unhide HV _ hk] at HM
  clear HV
  generalize o.m = om at *
  go_enter Tryz.func11, Tryz.ntmps11
  go_upto_region 18 with fail
  go_region_held3 (fun w' => w'.cell? ⟨B, 0, none⟩ = some (.slice (some ⟨r, 0, none⟩) n cap) ∧ w'.cell? ⟨wr.heap.size, 1, none⟩ = some (.int .i64 om) ∧ w'.cell? ⟨r, j, none⟩ = some (.pointer (some ⟨pj.pb, 0, none⟩))) (first | go_keep | (go_simp; done)) (first | (go_at_call 20; refine (unhide HP _).mono ?_; rintro e w' ⟨rfl, rfl⟩))
  all_goals
    go_wp2_with fail
    refine (unhide HM _ (by simp; omega) (unhide HLW _ ((keeps_all wr _).trans (keeps_drew _)))).mono ?_
    rintro e w1 ⟨rfl, hl⟩
    have F := hide (unhide FIN _ w1 ((keeps_all wr _).trans (keeps_drew _)) hl)
    clear hl
    go_wp2_with fail
    go_ret
    exact ⟨rfl, unhide F⟩
end Go.Proofs.YtcmoffiigpchiaaGreat

namespace Go.Proofs.YtcmoffiigpchiaaGreat
open Go.RowKit

set_option maxRecDepth 100000 in
set_option maxHeartbeats 2000000 in
theorem step_some8 (RS : RefSteps) (B k : Nat) (o : OpV) (hk : o.kind = 8) (hbig : k < 2932031007300) (r cap n : Nat) (hn : 0 < n) (P : Nat → PV) (wr : World) (h : Worlds wr B k (.slice (some ⟨r, 0, none⟩) n cap) n P) (hnl : (n : Int) ≤ 9223372036854775807) :
    Calls Tryz.prog 11 #[.pointer (some ⟨B, 0, none⟩), o.val] wr fun e w' => e = .returned (.bool true) ∧ WInv B (k + 1) w' ∧ Below B wr w' := by
  have HW := hide h
  have hB := h.box.lt
  have hrl := (h.row.lt r rfl).2
  have hrB := (h.row.lt r rfl).1
  obtain ⟨c0, f0, g0⟩ := h.box
  have hj := pickN_lt o.m hn
  have hcell : wr.cell? ⟨r, pickN o.m n, none⟩ = some (.pointer (some ⟨(P (pickN o.m n)).pb, 0, none⟩)) := by
    have := h.row.cells (g := r) rfl (pickN o.m n) (.pointer (some ⟨(P (pickN o.m n)).pb, 0, none⟩)) (by simp [rowP, hj])
    rwa [Addr.add_mid, Nat.zero_add] at this
  have hlen := h.len _ hj
  have HP := hide (pick_law o.m n)
  have HM := hide (fun W hB hL => machine_any RS B (P (pickN o.m n)) o (by omega) (by omega) (by omega) W hB hL)
  have FIN := hide (fun (W w' : World) (kw : Keeps wr W []) (hl : Left W w' B (P (pickN o.m n))) => show WInv B (k + 1) w' ∧ Below B wr w' from by
    obtain ⟨a1, a2⟩ := ((unhide HW).keeps0 kw).left hj hl
    exact ⟨a1, (below_of0 kw (by omega)).trans a2⟩)
  have HLW := hide (fun (W : World) (kw : Keeps wr W []) => ((unhide HW).keeps0 kw).lies _ hj)
  clear h hlen
  generalize pickN o.m n = j at *
  generalize P j = pj at *
  have nb1 : ¬ B = wr.heap.size := by omega
  have nb2 : ¬ wr.heap.size = B := by omega
  have nr1 : ¬ r = wr.heap.size := by omega
  have nr2 : ¬ wr.heap.size = r := by omega
  have hn0 : ¬ (n : Int) = 0 := by omega
  have hn1 : ((n : Int) == 0) = false := by simp; omega
  have hj1 : (j : Int) < (n : Int) := by omega
  have hj2 : (0 : Int) ≤ (j : Int) := by omega
  have HV : Hid (∀ κ, o.kind = κ → o.val = .agg #[.int .i64 κ, .int .i64 o.m, .string o.p, .string o.b, .int .i64 o.s.n, .int .i64 o.s.pc, .string o.s.regs, .string o.s.cells, .int .i64 o.s.clock, .int .i64 o.s.handler, .int .i64 o.s.back, .bool o.s.pending, .bool o.s.halted, .int .i64 o.c.input, .int .i64 o.c.ticks, .bool o.c.interrupt, .int .i64 o.x, .int .i64 o.y]) := hide (by rintro κ rfl; rfl)
  clear HW
  rw [unhide HV _ hk]
  rw [unhide HV _ hk] at HM
  clear HV
  generalize o.m = om at *
  go_enter Tryz.func11, Tryz.ntmps11
  go_upto_region 18 with fail
  go_region_held3 (fun w' => w'.cell? ⟨B, 0, none⟩ = some (.slice (some ⟨r, 0, none⟩) n cap) ∧ w'.cell? ⟨wr.heap.size, 1, none⟩ = some (.int .i64 om) ∧ w'.cell? ⟨r, j, none⟩ = some (.pointer (some ⟨pj.pb, 0, none⟩))) (first | go_keep | (go_simp; done)) (first | (go_at_call 20; refine (unhide HP _).mono ?_; rintro e w' ⟨rfl, rfl⟩))
  all_goals
    go_wp2_with fail
    refine (unhide HM _ (by simp; omega) (unhide HLW _ ((keeps_all wr _).trans (keeps_drew _)))).mono ?_
    rintro e w1 ⟨rfl, hl⟩
    have F := hide (unhide FIN _ w1 ((keeps_all wr _).trans (keeps_drew _)) hl)
    clear hl
    go_wp2_with fail
    go_ret
    exact ⟨rfl, unhide F⟩
end Go.Proofs.YtcmoffiigpchiaaGreat

namespace Go.Proofs.YtcmoffiigpchiaaGreat
open Go.RowKit

theorem step_mach (RS : RefSteps) (B k : Nat) (o : OpV) (h5 : 5 ≤ o.kind) (h8 : o.kind ≤ 8) (hbig : k < 2932031007300) (wr : World) (h : WInv B k wr) :
    Calls Tryz.prog 11 #[.pointer (some ⟨B, 0, none⟩), o.val] wr fun e w' => e = .returned (.bool true) ∧ WInv B (k + 1) w' ∧ Below B wr w' := by
  obtain ⟨v, n, P, hW⟩ := h
  rcases hW.row.2 with ⟨hv, hn⟩ | ⟨r, cap, cur, hv, -⟩
  · subst hn
    exact step_bare B k o h5 h8 v P none 0 hv wr hW
  · rcases Nat.eq_zero_or_pos n with hn | hn
    · subst hn
      exact step_bare B k o h5 h8 v P _ cap hv wr hW
    · subst hv
      have hk : o.kind = 5 ∨ o.kind = 6 ∨ o.kind = 7 ∨ o.kind = 8 := by omega
      rcases hk with hk | hk | hk | hk
      · exact step_some5 RS B k o hk hbig r cap n hn P wr hW (by have := hW.count; omega)
      · exact step_some6 RS B k o hk hbig r cap n hn P wr hW (by have := hW.count; omega)
      · exact step_some7 RS B k o hk hbig r cap n hn P wr hW (by have := hW.count; omega)
      · exact step_some8 RS B k o hk hbig r cap n hn P wr hW (by have := hW.count; omega)

def op7 : OpV := ⟨7, 0, ⟨#[]⟩, ⟨#[]⟩, ⟨0, 0, ⟨#[]⟩, ⟨#[]⟩, 0, 0, 0, false, false⟩, ⟨0, 0, false⟩, 0, 0⟩
def op8 : OpV := ⟨8, 0, ⟨#[]⟩, ⟨#[]⟩, ⟨0, 0, ⟨#[]⟩, ⟨#[]⟩, 0, 0, 0, false, false⟩, ⟨0, 0, false⟩, 0, 0⟩

set_option maxRecDepth 100000 in
set_option maxHeartbeats 1000000 in
theorem ends_any (B k : Nat) (hbig : k < 2932031007300) (wr0 : World) (h : WInv B k wr0) :
    Calls Tryz.prog 12 #[.pointer (some ⟨B, 0, none⟩)] wr0 fun e w' => e = .returned (.bool true) ∧ Below B wr0 w' := by
  obtain ⟨v, n, P, hW⟩ := h
  have hB := hW.box.lt
  have hcnt := hW.count
  obtain ⟨a, cap, hv⟩ : ∃ a cap, v = .slice a n cap := by
    rcases hW.row.2 with ⟨hv, hn⟩ | ⟨r, cap, cur, hv, -⟩
    · subst hn; exact ⟨none, 0, hv⟩
    · exact ⟨_, _, hv⟩
  have H7 := hide (fun W i (hi : i < n) (hw : Worlds W B k v n P) => machine_state B (P i) op7 rfl W (hw.lies i hi))
  have H8 := hide (fun W i (hi : i < n) (hw : Worlds W B k v n P) => machine_trace B (P i) op8 rfl W (hw.lies i hi))
  have HRow := hide (fun (W : World) i (hi : i < n) (hw : Worlds W B k v n P) => show ∃ r, a = some ⟨r, 0, none⟩ ∧ W.cell? ⟨r, i, none⟩ = some (.pointer (some ⟨(P i).pb, 0, none⟩)) from by
    rcases hw.row.2 with ⟨hv', hn⟩ | ⟨r, cap', cur, hv', -⟩
    · omega
    · rw [hv] at hv'
      simp at hv'
      have := hw.row.cells (g := r) (by rw [hv, hv'.1]; rfl) i (.pointer (some ⟨(P i).pb, 0, none⟩)) (by simp [rowP, hi])
      rw [Addr.add_mid, Nat.zero_add] at this
      exact ⟨r, hv'.1, this⟩)
  subst hv
  obtain ⟨c0, f0, g0⟩ := hW.box
  have HW := hide hW
  clear hW
  go_enter Tryz.func12, Tryz.ntmps12
  go_wp2
  go_loopw [3] (fun i wr => ∃ q : Nat, q ≤ n ∧ i = .int .i64 q ∧ Worlds wr B k (.slice a n cap) n P ∧ Below wr0.heap.size wr0 wr) (fun i _ => n - (intOf i).toNat)
  case atStart => exact ⟨0, Nat.zero_le _, rfl, unhide HW, Below.refl _ _⟩
  case round =>
    obtain ⟨q, hq, rfl, hw, hb⟩ := hrel
    clear c0 f0 g0
    by_cases hlt : q < n
    · obtain ⟨r, rfl, hcell⟩ := unhide HRow wr q hlt hw
      obtain ⟨c0, f0, g0⟩ := hw.box
      have hq1 : (q : Int) < (n : Int) := by omega
      have hq2 : (0 : Int) ≤ (q : Int) := by omega
      have W1 := hide hw
      have B1 := hide hb
      clear hw hb
      go_wp2_with fail
      refine (unhide H7 _ q hlt (unhide W1)).mono ?_
      rintro e w1 ⟨rfl, -, hb⟩
      have W2 := hide ((unhide W1).next hb)
      have B2 := hide ((unhide B1).trans (hb.mono (unhide B1).size))
      clear hb c0 f0 g0 hcell
      obtain ⟨r', hr', hcell⟩ := unhide HRow w1 q hlt (unhide W2)
      simp only [Option.some.injEq, Addr.mk.injEq, and_true] at hr'
      subst hr'
      obtain ⟨c0, f0, g0⟩ := (unhide W2).box
      go_wp2_with fail
      refine (unhide H8 _ q hlt (unhide W2)).mono ?_
      rintro e w2 ⟨rfl, -, hb⟩
      have W3 := hide ((unhide W2).next hb)
      have B3 := hide ((unhide B2).trans (hb.mono (unhide B2).size))
      clear hb c0 f0 g0 hcell
      go_wp2_with fail
      go_roundw
      case rel => exact ⟨q + 1, by omega, by go_num, unhide W3, unhide B3⟩
      case measure => simp [intOf]; omega
    · obtain ⟨c0, f0, g0⟩ := hw.box
      have B1 := hide hb
      clear hb hw
      go_wp2_with fail
      go_ret
      exact ⟨rfl, (unhide B1).mono (by omega)⟩
end Go.Proofs.YtcmoffiigpchiaaGreat
