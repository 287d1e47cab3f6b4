import Derived.Test.YtcmoffiigpchiabGreatChB
import Derived.Test.YtcmoffiigpchiabGreatPaL
import Derived.Test.YtcmoffiigpchiabGreatLiftU
namespace Go.Proofs.YtcmoffiigpchiabGreat
open Go.RowKit

theorem bulk_one {H : Type} (d : DataW H) : 1 ≤ Rows.uptoBulk d := by
  cases d with
  | lit l => cases l <;> simp [Rows.uptoBulk]
  | _ => simp [Rows.uptoBulk]
theorem bulk_len {H : Type} (l : List (DataW H)) : l.length ≤ Rows.uptoBulkAll l := by
  induction l with
  | nil => exact Nat.zero_le _
  | cons a r ih =>
    have := bulk_one a
    simp only [List.length_cons, Rows.uptoBulkAll]
    omega
theorem small_len {H : Type} {enc : TypeId × Value → H} {w : World} {base : Nat} {spare : Nat → Bool} {held : Bool} {fuel : Nat} {a : Option Addr} {len cap : Nat} {x : DataW H × List MemPlace} (h : DataW.trod enc Tryz.prog w base spare held fuel 22 [.slice a len cap] = some x) (hk : Rows.uptoBulk x.1 ≤ 1048576) : len ≤ 1048576 := by
  rcases Deep.open_slice Tryz.underlying22 h with ⟨hcs, _⟩ | ⟨a', len', cap', m, n, D, Pl, hcs, hb, hl, hm, hmm, hxx, hx⟩
  · simp at hcs
    omega
  · simp at hcs
    obtain ⟨rfl, rfl, rfl⟩ := hcs
    rw [hxx] at hk
    simp only [Rows.uptoBulk] at hk
    have h1 := bulk_len (List.map D (List.range len))
    rw [List.length_map, List.length_range] at h1
    omega
theorem own_sizes {m : RM} (h : m.Inv) : (RM.traceOf m).size ≤ 1048576 ∧ m.p.size ≤ maxLen := by
  have h1 := RM.traceOf_size h.ok
  have h2 := h.ok.kept
  have h3 := h.ok.good.short
  unfold maxLen
  omega

set_option maxRecDepth 100000 in
set_option maxHeartbeats 1000000 in
theorem own_span (B : Nat) (p : PV) (o : OpV) (hk : o.kind = 12) (w : World) (h : Lies w B p) :
    Calls Tryz.prog 16 #[.pointer (some ⟨p.pb, 0, none⟩), o.val] w fun e w' => e = .returned (.bool true) ∧ Left w w' B p := by
  have HL := hide h
  have HY := hide (fun W hW => trace_ref p.yb p.gb p.cap p.m h.inv.ok W hW)
  have HS := hide (span_law (RM.traceOf p.m) (own_sizes h.inv).1)
  have P0 := hide h.pair
  have hpl := h.pair.lt
  have HR := hide h.ref
  clear h
  generalize RM.traceOf p.m = tr at *
  unfold OpV.val OpV.cells
  rw [hk]
  obtain ⟨c0, f0, g0⟩ := unhide P0
  have nb1 : ¬ p.pb = w.heap.size := by omega
  have nb2 : ¬ w.heap.size = p.pb := by omega
  go_enter Tryz.func16, Tryz.ntmps16
  go_wp2_with fail
  refine (unhide HY _ ((unhide HR).alloc _)).mono ?_
  rintro e w1 ⟨rfl, rfl⟩
  go_wp2_with fail
  refine (unhide HS _).mono ?_
  rintro e w2 ⟨rfl, hb⟩
  have B2 := hide (bel_alloc hb)
  clear hb
  go_wp2_with fail
  go_ret
  exact ⟨rfl, (unhide HL).stays (unhide B2)⟩

set_option maxRecDepth 100000 in
set_option maxHeartbeats 2000000 in
theorem own_at (B : Nat) (p : PV) (o : OpV) (hk : o.kind = 13) (w : World) (h : Lies w B p) :
    Calls Tryz.prog 16 #[.pointer (some ⟨p.pb, 0, none⟩), o.val] w fun e w' => e = .returned (.bool true) ∧ Left w w' B p := by
  have HL := hide h
  have HY := hide (fun W hW => trace_ref p.yb p.gb p.cap p.m h.inv.ok W hW)
  have HS := hide (at_law p.m.p (RM.traceOf p.m) (own_sizes h.inv).2 (own_sizes h.inv).1 o.x)
  have hpl := h.pair.lt
  have hyl := h.ref.box.lt
  have HR := hide h.ref
  clear h
  generalize RM.traceOf p.m = tr at *
  obtain ⟨kind, om, op, ob, ⟨on, opc, oregs, ocells, oclock, ohandler, oback, opending, ohalted⟩, ⟨oinput, oticks, ointerrupt⟩, ox, oy⟩ := o
  simp only at hk HS
  subst hk
  unfold OpV.val OpV.cells
  simp only
  obtain ⟨c0, f0, g0⟩ := (unhide HL).pair
  have nb1 : ¬ p.pb = w.heap.size := by omega
  have nb2 : ¬ w.heap.size = p.pb := by omega
  have nb3 : ¬ p.yb = w.heap.size := by omega
  have nb4 : ¬ w.heap.size = p.yb := by omega
  go_enter Tryz.func16, Tryz.ntmps16
  go_wp2_with fail
  refine (unhide HY _ ((unhide HR).alloc _)).mono ?_
  rintro e w1 ⟨rfl, rfl⟩
  go_upto_region 6 with fail
  have X0 := hide (Box.new w #[.int .i64 13, .int .i64 om, .string op, .string ob, .int .i64 on, .int .i64 opc, .string oregs, .string ocells, .int .i64 oclock, .int .i64 ohandler, .int .i64 oback, .bool opending, .bool ohalted, .int .i64 oinput, .int .i64 oticks, .bool ointerrupt, .int .i64 ox, .int .i64 oy] 34)
  have B0 := hide ((Below.refl w.heap.size w).alloc (Nat.le_refl _) (.cells #[.int .i64 13, .int .i64 om, .string op, .string ob, .int .i64 on, .int .i64 opc, .string oregs, .string ocells, .int .i64 oclock, .int .i64 ohandler, .int .i64 oback, .bool opending, .bool ohalted, .int .i64 oinput, .int .i64 oticks, .bool ointerrupt, .int .i64 ox, .int .i64 oy] 34))
  have L0 := hide ((unhide HL).next (unhide B0))
  generalize w.alloc (.cells #[.int .i64 13, .int .i64 om, .string op, .string ob, .int .i64 on, .int .i64 opc, .string oregs, .string ocells, .int .i64 oclock, .int .i64 ohandler, .int .i64 oback, .bool opending, .bool ohalted, .int .i64 oinput, .int .i64 oticks, .bool ointerrupt, .int .i64 ox, .int .i64 oy] 34) = wy at *
  clear c0 f0 g0
  have HC : Hid (∀ W, Lies W B p → W.cell? ⟨p.pb, 1, none⟩ = some (.pointer (some ⟨p.yb, 0, none⟩)) ∧ W.cell? ⟨p.yb, 0, none⟩ = some (.string p.m.p)) := hide (fun W hW => ⟨by rw [hW.pair.c 1]; rfl, by rw [hW.ref.box.c 0]; rfl⟩)
  have HO : Hid (∀ W, Box W w.heap.size #[.int .i64 13, .int .i64 om, .string op, .string ob, .int .i64 on, .int .i64 opc, .string oregs, .string ocells, .int .i64 oclock, .int .i64 ohandler, .int .i64 oback, .bool opending, .bool ohalted, .int .i64 oinput, .int .i64 oticks, .bool ointerrupt, .int .i64 ox, .int .i64 oy] → W.cell? ⟨w.heap.size, 16, none⟩ = some (.int .i64 ox) ∧ W.cell? ⟨w.heap.size, 17, none⟩ = some (.int .i64 oy)) := hide (fun W hW => ⟨by rw [hW.c 16]; rfl, by rw [hW.c 17]; rfl⟩)
  obtain ⟨c1, c2⟩ := unhide HC _ (unhide L0)
  obtain ⟨c3, c4⟩ := unhide HO _ (unhide X0)
  go_region_held3 (fun w' => w'.cell? ⟨p.pb, 1, none⟩ = some (.pointer (some ⟨p.yb, 0, none⟩)) ∧ w'.cell? ⟨p.yb, 0, none⟩ = some (.string p.m.p) ∧ w'.cell? ⟨w.heap.size, 16, none⟩ = some (.int .i64 ox)) (first | go_keep | (go_simp; done)) (first | (go_at_call 12; refine (unhide HS _).mono ?_; rintro e w2 ⟨rfl, hb⟩; have B2 := hide (bel_undrew hb); clear hb; have L2 := hide ((unhide L0).next (unhide B2)); have X2 := hide ((unhide X0).next (unhide B2)); obtain ⟨c5, c6⟩ := unhide HC _ (unhide L2); obtain ⟨c7, c8⟩ := unhide HO _ (unhide X2)))
  all_goals
    go_wp2_with fail
    go_ret
    exact ⟨rfl, (unhide HL).stays ((unhide B0).trans ((unhide B2).mono (unhide B0).size))⟩

set_option maxRecDepth 100000 in
set_option maxHeartbeats 2000000 in
theorem own_changed (B : Nat) (p : PV) (o : OpV) (hk : o.kind = 14) (w : World) (h : Lies w B p) :
    Calls Tryz.prog 16 #[.pointer (some ⟨p.pb, 0, none⟩), o.val] w fun e w' => e = .returned (.bool true) ∧ Left w w' B p := by
  have HL := hide h
  have HY := hide (fun W hW => trace_ref p.yb p.gb p.cap p.m h.inv.ok W hW)
  have HS := hide (changed_law p.m.p (RM.traceOf p.m) (own_sizes h.inv).2 (own_sizes h.inv).1 o.x o.y)
  have hpl := h.pair.lt
  have hyl := h.ref.box.lt
  have HR := hide h.ref
  clear h
  generalize RM.traceOf p.m = tr at *
  obtain ⟨kind, om, op, ob, ⟨on, opc, oregs, ocells, oclock, ohandler, oback, opending, ohalted⟩, ⟨oinput, oticks, ointerrupt⟩, ox, oy⟩ := o
  simp only at hk HS
  subst hk
  unfold OpV.val OpV.cells
  simp only
  obtain ⟨c0, f0, g0⟩ := (unhide HL).pair
  have nb1 : ¬ p.pb = w.heap.size := by omega
  have nb2 : ¬ w.heap.size = p.pb := by omega
  have nb3 : ¬ p.yb = w.heap.size := by omega
  have nb4 : ¬ w.heap.size = p.yb := by omega
  go_enter Tryz.func16, Tryz.ntmps16
  go_wp2_with fail
  refine (unhide HY _ ((unhide HR).alloc _)).mono ?_
  rintro e w1 ⟨rfl, rfl⟩
  go_upto_region 7 with fail
  have X0 := hide (Box.new w #[.int .i64 14, .int .i64 om, .string op, .string ob, .int .i64 on, .int .i64 opc, .string oregs, .string ocells, .int .i64 oclock, .int .i64 ohandler, .int .i64 oback, .bool opending, .bool ohalted, .int .i64 oinput, .int .i64 oticks, .bool ointerrupt, .int .i64 ox, .int .i64 oy] 34)
  have B0 := hide ((Below.refl w.heap.size w).alloc (Nat.le_refl _) (.cells #[.int .i64 14, .int .i64 om, .string op, .string ob, .int .i64 on, .int .i64 opc, .string oregs, .string ocells, .int .i64 oclock, .int .i64 ohandler, .int .i64 oback, .bool opending, .bool ohalted, .int .i64 oinput, .int .i64 oticks, .bool ointerrupt, .int .i64 ox, .int .i64 oy] 34))
  have L0 := hide ((unhide HL).next (unhide B0))
  generalize w.alloc (.cells #[.int .i64 14, .int .i64 om, .string op, .string ob, .int .i64 on, .int .i64 opc, .string oregs, .string ocells, .int .i64 oclock, .int .i64 ohandler, .int .i64 oback, .bool opending, .bool ohalted, .int .i64 oinput, .int .i64 oticks, .bool ointerrupt, .int .i64 ox, .int .i64 oy] 34) = wy at *
  clear c0 f0 g0
  have HC : Hid (∀ W, Lies W B p → W.cell? ⟨p.pb, 1, none⟩ = some (.pointer (some ⟨p.yb, 0, none⟩)) ∧ W.cell? ⟨p.yb, 0, none⟩ = some (.string p.m.p)) := hide (fun W hW => ⟨by rw [hW.pair.c 1]; rfl, by rw [hW.ref.box.c 0]; rfl⟩)
  have HO : Hid (∀ W, Box W w.heap.size #[.int .i64 14, .int .i64 om, .string op, .string ob, .int .i64 on, .int .i64 opc, .string oregs, .string ocells, .int .i64 oclock, .int .i64 ohandler, .int .i64 oback, .bool opending, .bool ohalted, .int .i64 oinput, .int .i64 oticks, .bool ointerrupt, .int .i64 ox, .int .i64 oy] → W.cell? ⟨w.heap.size, 16, none⟩ = some (.int .i64 ox) ∧ W.cell? ⟨w.heap.size, 17, none⟩ = some (.int .i64 oy)) := hide (fun W hW => ⟨by rw [hW.c 16]; rfl, by rw [hW.c 17]; rfl⟩)
  obtain ⟨c1, c2⟩ := unhide HC _ (unhide L0)
  obtain ⟨c3, c4⟩ := unhide HO _ (unhide X0)
  go_region_held3 (fun w' => w'.cell? ⟨p.pb, 1, none⟩ = some (.pointer (some ⟨p.yb, 0, none⟩)) ∧ w'.cell? ⟨p.yb, 0, none⟩ = some (.string p.m.p) ∧ w'.cell? ⟨w.heap.size, 16, none⟩ = some (.int .i64 ox) ∧ w'.cell? ⟨w.heap.size, 17, none⟩ = some (.int .i64 oy)) (first | go_keep | (go_simp; done)) (first | (go_at_call 13; refine (unhide HS _).mono ?_; rintro e w2 ⟨rfl, hb⟩; have B2 := hide (bel_undrew hb); clear hb; have L2 := hide ((unhide L0).next (unhide B2)); have X2 := hide ((unhide X0).next (unhide B2)); obtain ⟨c5, c6⟩ := unhide HC _ (unhide L2); obtain ⟨c7, c8⟩ := unhide HO _ (unhide X2)))
  all_goals
    go_wp2_with fail
    go_ret
    exact ⟨rfl, (unhide HL).stays ((unhide B0).trans ((unhide B2).mono (unhide B0).size))⟩

theorem own_any (B : Nat) (p : PV) (o : OpV) (h5 : 12 ≤ o.kind) (h8 : o.kind ≤ 14) (w : World) (h : Lies w B p) :
    Calls Tryz.prog 16 #[.pointer (some ⟨p.pb, 0, none⟩), o.val] w fun e w' => e = .returned (.bool true) ∧ Left w w' B p := by
  have hk : o.kind = 12 ∨ o.kind = 13 ∨ o.kind = 14 := by omega
  rcases hk with hk | hk | hk
  · exact own_span B p o hk w h
  · exact own_at B p o hk w h
  · exact own_changed B p o hk w h

set_option maxRecDepth 100000 in
set_option maxHeartbeats 1000000 in
theorem own_bare (B k : Nat) (o : OpV) (h5 : 12 ≤ o.kind) (h8 : o.kind ≤ 14) (v : Value) (P : Nat → PV) (a : Option Addr) (cap : Nat) (hv : v = .slice a 0 cap) (wr : World) (h : Worlds wr B k v 0 P) :
    Calls Tryz.prog 5 #[.pointer (some ⟨B, 0, none⟩), o.val] wr fun e w' => e = .returned (.bool true) ∧ WInv B (k + 1) w' ∧ Below B wr w' := by
  have HW := hide h
  have hB := h.box.lt
  obtain ⟨c0, f0, g0⟩ := h.box
  subst hv
  clear h
  have nb1 : ¬ B = wr.heap.size := by omega
  have nb2 : ¬ wr.heap.size = B := by omega
  have hk : o.kind = 12 ∨ o.kind = 13 ∨ o.kind = 14 := by omega
  have fin : ∀ X : Obj, WInv B (k + 1) (wr.alloc X) ∧ Below B wr (wr.alloc X) := fun X => ⟨⟨_, _, _, ((unhide HW).keeps0 (keeps_all wr X)).more⟩, below_of0 (keeps_all wr X) (by omega)⟩
  have FIN := hide fin
  clear fin
  unfold OpV.val OpV.cells
  rcases hk with hk | hk | hk
  all_goals
    rw [hk]
    go_enter Tryz.func5, Tryz.ntmps5
    go_wp2_with fail
    go_ret
    exact ⟨rfl, unhide FIN _⟩
end Go.Proofs.YtcmoffiigpchiabGreat
