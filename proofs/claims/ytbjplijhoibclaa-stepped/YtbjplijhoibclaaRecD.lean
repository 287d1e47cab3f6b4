import Derived.Test.YtbjplijhoibclaaRecC
import Derived.Test.YtbjplijhoibclaaDoW
import Derived.Deep.DeepCutAuto
import Derived.Deep.RegionWith
namespace Go.Proofs.Ytbjplijhoibclaa
open Go.RowKit

theorem four (a0 a1 a2 a3 v0 v1 v2 v3 : Value) : (((#[a0, a1, a2, a3].setIfInBounds 0 v0).setIfInBounds 1 v1).setIfInBounds 2 v2).setIfInBounds 3 v3 = #[v0, v1, v2, v3] := by simp
theorem Box.put4 {w : World} {b : Nat} {a0 a1 a2 a3 : Value} (h : Box w b #[a0, a1, a2, a3]) (v0 v1 v2 v3 : Value) :
    Box ((((w.setCell ⟨b, 0, none⟩ v0).setCell ⟨b, 1, none⟩ v1).setCell ⟨b, 2, none⟩ v2).setCell ⟨b, 3, none⟩ v3) b #[v0, v1, v2, v3] := by
  rw [← four a0 a1 a2 a3 v0 v1 v2 v3]
  exact (((h.set 0 v0 (by simp)).set 1 v1 (by simp)).set 2 v2 (by simp)).set 3 v3 (by simp)
theorem Box.off {w : World} {b : Nat} {ca : Array Value} (h : Box w b ca) {a : Addr} (ha : b ≠ a.block) (v : Value) : Box (w.setCell a v) b ca :=
  h.keeps ((Keeps.refl w [a.block]).setCell (by simp) v) (by simpa using ha)
theorem Box.off4 {w : World} {b x : Nat} {ca : Array Value} (h : Box w b ca) (hx : b ≠ x) (v0 v1 v2 v3 : Value) :
    Box ((((w.setCell ⟨x, 0, none⟩ v0).setCell ⟨x, 1, none⟩ v1).setCell ⟨x, 2, none⟩ v2).setCell ⟨x, 3, none⟩ v3) b ca :=
  (((h.off hx v0).off hx v1).off hx v2).off hx v3
theorem bel_put4 {w w1 : World} {k x : Nat} (h : Below k w w1) (hx : k ≤ x) (v0 v1 v2 v3 : Value) :
    Below k w ((((w1.setCell ⟨x, 0, none⟩ v0).setCell ⟨x, 1, none⟩ v1).setCell ⟨x, 2, none⟩ v2).setCell ⟨x, 3, none⟩ v3) := by
  repeat (refine Below.setCell ?_ (by simpa using hx) _)
  exact h

theorem three_boxes {w w1 : World} {ca cb cc : Array Value} {ta tb tc : TypeId} (hb : Below (((w.alloc (.cells ca ta)).alloc (.cells cb tb)).alloc (.cells cc tc)).heap.size (((w.alloc (.cells ca ta)).alloc (.cells cb tb)).alloc (.cells cc tc)) w1) :
    Box w1 w.heap.size ca ∧ Box w1 (w.heap.size + 1) cb ∧ Box w1 (w.heap.size + 2) cc ∧ Below w.heap.size w w1 := by
  obtain ⟨c0, c1, c2, f0, f1, f2, hs, hl⟩ := boxes3 hb
  exact ⟨⟨c0, f0, by omega⟩, ⟨c1, f1, by omega⟩, ⟨c2, f2, by omega⟩, hl⟩
theorem four_boxes {w w1 : World} {ca cb cc cd : Array Value} {ta tb tc td : TypeId} (hb : Below ((((w.alloc (.cells ca ta)).alloc (.cells cb tb)).alloc (.cells cc tc)).alloc (.cells cd td)).heap.size ((((w.alloc (.cells ca ta)).alloc (.cells cb tb)).alloc (.cells cc tc)).alloc (.cells cd td)) w1) :
    Box w1 w.heap.size ca ∧ Box w1 (w.heap.size + 1) cb ∧ Box w1 (w.heap.size + 2) cc ∧ Box w1 (w.heap.size + 3) cd ∧ Below w.heap.size w w1 := by
  obtain ⟨a1, a2, a3, a4⟩ := three_boxes (bel_alloc hb)
  have a5 := (Box.new (((w.alloc (.cells ca ta)).alloc (.cells cb tb)).alloc (.cells cc tc)) cd td).next hb
  have e : (((w.alloc (.cells ca ta)).alloc (.cells cb tb)).alloc (.cells cc tc)).heap.size = w.heap.size + 3 := by simp
  rw [e] at a5
  exact ⟨a1, a2, a3, a5, a4⟩

set_option maxRecDepth 100000 in
set_option maxHeartbeats 400000 in
theorem withState_code (m : RM) (hm : m.Ok) (hh : m.from_ < m.all.length → RM.nthC m.all m.from_ = true) (w : World) :
    Calls Try.prog 39 #[m.rcd, m.s.val] w fun e w' => e = .returned (RM.save m).rcd ∧ Below w.heap.size w w' := by
  have HR := hide (withRoom_code m hm hh)
  have HO := hide (ofState_code (RM.place m).1.all.length m.s hm.legal)
  have HW := hide (with_code (RM.place m).1 (RM.place_ok hm) (Frame.ofState (RM.place m).1.all.length m.s) (Frame.ofState_size hm.legal))
  have HS : Hid ((RM.save m).rcd = rcv (RM.traceOf (RM.put (RM.place m).1 (Frame.ofState (RM.place m).1.all.length m.s))) m.s.n (RM.put (RM.place m).1 (Frame.ofState (RM.place m).1.all.length m.s)).room ((RM.put (RM.place m).1 (Frame.ofState (RM.place m).1.all.length m.s)).all.length % 65536)) := hide rfl
  unfold RM.rcd at *
  generalize Frame.ofState (RM.place m).1.all.length m.s = fr at *
  generalize RM.traceOf (RM.put (RM.place m).1 fr) = t3 at *
  generalize (RM.put (RM.place m).1 fr).room = r3 at *
  generalize (RM.put (RM.place m).1 fr).last = l3 at *
  generalize (RM.put (RM.place m).1 fr).all.length % 65536 = n3 at *
  generalize RM.traceOf (RM.place m).1 = t2 at *
  generalize (RM.place m).1.room = r2 at *
  generalize (RM.place m).1.last = l2 at *
  generalize (RM.place m).1.all.length % 65536 = n2 at *
  generalize RM.traceOf m = t1 at *
  generalize m.room = r1 at *
  generalize m.last = l1 at *
  generalize m.all.length % 65536 = n1 at *
  generalize m.s = s at *
  clear hm hh
  obtain ⟨n, pc, regs, cells, clock, handler, back, pending, halted⟩ := s
  go_enter Try.func39, Try.ntmps39
  go_wp2_with fail
  refine (unhide HR _).mono ?_
  rintro e w1 ⟨rfl, hb⟩
  obtain ⟨x1, y1, z1, l1⟩ := three_boxes hb
  have X1 := hide x1
  have Y1 := hide y1
  have Z1 := hide z1
  have B1 := hide l1
  clear hb x1 y1 z1 l1
  obtain ⟨cx, fx, gx⟩ := unhide X1
  obtain ⟨cy, fy, gy⟩ := unhide Y1
  obtain ⟨cz, fz, gz⟩ := unhide Z1
  go_wp2_with fail
  refine (unhide HO _).mono ?_
  rintro e w2 ⟨rfl, hb⟩
  have X2 := hide (((unhide X1).put4 _ _ _ _).next hb)
  have Y2 := hide (((unhide Y1).off4 (by omega) _ _ _ _).next hb)
  have Z2 := hide (((unhide Z1).off4 (by omega) _ _ _ _).next hb)
  have B2 := hide ((bel_put4 (unhide B1) (Nat.le_refl _) _ _ _ _).trans (hb.mono (by have := (unhide B1).size; simp; omega)))
  clear hb cx fx gx cy fy gy cz fz gz
  obtain ⟨cx, fx, gx⟩ := unhide X2
  obtain ⟨cy, fy, gy⟩ := unhide Y2
  obtain ⟨cz, fz, gz⟩ := unhide Z2
  go_upto_region 3 with fail
  go_cut [] (fun wx => Box wx w.heap.size #[.string t3, .int .i64 l3, .int .i64 r3, .int .i64 n3] ∧ Box wx (w.heap.size + 1) #[.int .i64 n, .int .i64 pc, .string regs, .string cells, .int .i64 clock, .int .i64 handler, .int .i64 back, .bool pending, .bool halted] ∧ Box wx (w.heap.size + 2) #[.string ⟨#[]⟩, .int .i64 0, .int .i64 0, .int .i64 0] ∧ Below w.heap.size w wx)
  case first =>
    go_wp2_with fail
    refine (unhide HW _).mono ?_
    rintro e w3 ⟨rfl, hb⟩
    have X3 := hide ((unhide X2).next hb)
    have Y3 := hide ((unhide Y2).next hb)
    have Z3 := hide ((unhide Z2).next hb)
    have B3 := hide ((unhide B2).trans (hb.mono (unhide B2).size))
    clear hb cx fx gx cy fy gy cz fz gz
    obtain ⟨cx, fx, gx⟩ := unhide X3
    clear gx
    go_wp2_with fail
    go_meet
    case rel => exact ⟨(unhide X3).put4 _ _ _ _, (unhide Y3).off4 (by omega) _ _ _ _, (unhide Z3).off4 (by omega) _ _ _ _, bel_put4 (unhide B3) (Nat.le_refl _) _ _ _ _⟩
  case rest =>
    obtain ⟨x3, y3, z3, b3⟩ := hcut
    have B3 := hide b3
    clear cx fx gx cy fy gy cz fz gz b3
    obtain ⟨cx, fx, gx⟩ := x3
    obtain ⟨cy, fy, gy⟩ := y3
    obtain ⟨cz, fz, gz⟩ := z3
    go_wp2_with fail
    refine bodyPost_ret (v := rcv t3 n r3 n3) (by simp [results, Try.results39, go_sem, cz]) rfl ⟨by rw [unhide HS], ?_⟩
    repeat (refine Below.setCell ?_ (by simp <;> omega) _)
    exact unhide B3
end Go.Proofs.Ytbjplijhoibclaa
