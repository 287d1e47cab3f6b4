import Derived.Test.YtbjplijhoibclaaRecD
import Derived.Test.YtbjplijhoibclaaArrW
namespace Go.Proofs.Ytbjplijhoibclaa
open Go.RowKit

theorem empty_list (t : ByteArray) (h : t = ⟨#[]⟩) : t.toList.isEmpty = true := by
  subst h
  rw [ByteArray.toList_eq]
  rfl
theorem empty_not (t : ByteArray) (h : ¬ t = ⟨#[]⟩) : t.toList.isEmpty = false := by
  cases hx : t.toList.isEmpty with
  | false => rfl
  | true =>
    exfalso
    apply h
    rw [ByteArray.toList_eq] at hx
    apply ByteArray.ext
    simpa using hx
namespace RM
theorem place_again {m : RM} (hi : Inv m) (h : (place m).2 = true) : place (place m).1 = ((place m).1, false) := by
  have e := (place_from hi).2 h
  have hr := place_room' m
  have r0 := hi.ok.room0
  have hlt : ((place m).1.all.length : Int) - (place m).1.from_ < (place m).1.room := by rw [e, hr]; omega
  generalize (place m).1 = q at *
  unfold place
  rw [if_pos hlt]
theorem save_again {m : RM} (hi : Inv m) (h : (place m).2 = true) : save (place m).1 = { put (place m).1 (Frame.ofState (place m).1.all.length m.s) with last := m.s.n } := by
  have e := place_again hi h
  have hs := place_s m
  generalize (place m).1 = q at *
  unfold save
  rw [e]
  simp only [put, hs]
theorem save_again_ok {m : RM} (hi : Inv m) (h : (place m).2 = true) (hl : m.all.length < 4611686018427387902) : (save (place m).1).Ok := by
  rw [save_again hi h]
  have hs := place_s m
  have hal : (place m).1.all.length = m.all.length := by rw [place_all]
  obtain ⟨p1, p2, p3⟩ := place_room hi.ok hi.fit
  have hr := place_room' m
  have po := place_ok hi.ok
  have hz : (Frame.ofState (place m).1.all.length m.s).size = 40 := Frame.ofState_size hi.ok.legal
  generalize (place m).1 = q at *
  have e1 : m.s.n = (put q (Frame.ofState q.all.length m.s)).s.n := by simp [put, hs]
  have := last_ok (put_ok po hz (by omega) (by omega))
  rw [← e1] at this
  exact this
theorem note_true {m : RM} (hi : Inv m) (h : (place m).2 = true) (c : ChV) : note m c = put (save (place m).1) (Frame.ofChoice (save (place m).1).all.length m.s.n.toNat c) := by
  rw [save_again hi h]
  unfold note
  simp only [h, if_true]
theorem note_false {m : RM} (h : (place m).2 = false) (c : ChV) : note m c = put (place m).1 (Frame.ofChoice (place m).1.all.length m.s.n.toNat c) := by
  unfold note
  simp [h]
end RM

set_option maxRecDepth 100000 in
set_option maxHeartbeats 400000 in
theorem withChoice_some (m : RM) (hi : RM.Inv m) (c : ChV) (hc : Mach.Chosen c) (h : (RM.place m).2 = false) (w : World) :
    Calls Try.prog 42 #[m.rcd, m.s.val, c.val] w fun e w' => e = .returned (RM.note m c).rcd ∧ Below w.heap.size w w' := by
  have hne := empty_not (RM.traceOf (RM.place m).1) (fun e => by have := (RM.place_none hi).2 e; rw [h] at this; cases this)
  have HR := hide (withRoom_code m hi.ok (fun _ => hi.head))
  have HO := hide (ofChoice_code (RM.place m).1.all.length m.s.n hi.ok.legal.n0 c hc)
  have HW := hide (with_code (RM.place m).1 (RM.place_ok hi.ok) (Frame.ofChoice (RM.place m).1.all.length m.s.n.toNat c) (Frame.ofChoice_size _ _ _))
  rw [RM.note_false h c]
  unfold RM.rcd at *
  generalize Frame.ofChoice (RM.place m).1.all.length m.s.n.toNat c = fr at *
  generalize RM.traceOf (RM.put (RM.place m).1 fr) = t3 at *
  generalize (RM.put (RM.place m).1 fr).room = r3 at *
  generalize (RM.put (RM.place m).1 fr).last = l3 at *
  generalize (RM.put (RM.place m).1 fr).all.length % 65536 = n3 at *
  generalize RM.traceOf (RM.place m).1 = t2 at *
  generalize (RM.place m).1.room = r2 at *
  generalize (RM.place m).1.last = l2 at *
  generalize (RM.place m).1.all.length % 65536 = n2 at *
  generalize RM.traceOf m = t1 at *
  generalize m.room = r1 at *
  generalize m.last = l1 at *
  generalize m.all.length % 65536 = n1 at *
  generalize m.s = s at *
  clear hi hc h
  obtain ⟨n, pc, regs, cells, clock, handler, back, pending, halted⟩ := s
  obtain ⟨input, ticks, interrupt⟩ := c
  go_enter Try.func42, Try.ntmps42
  go_wp2_with fail
  refine (unhide HR _).mono ?_
  rintro e w1 ⟨rfl, hb⟩
  obtain ⟨x1, y1, z1, v1, l1⟩ := four_boxes hb
  have X1 := hide x1
  have Y1 := hide y1
  have Z1 := hide z1
  have V1 := hide v1
  have B1 := hide l1
  clear hb x1 y1 z1 v1 l1
  obtain ⟨cx, fx, gx⟩ := unhide X1
  obtain ⟨cy, fy, gy⟩ := unhide Y1
  obtain ⟨cz, fz, gz⟩ := unhide Z1
  clear gx gy gz
  go_wp2_with fail
  refine (unhide HO _).mono ?_
  rintro e w2 ⟨rfl, hb⟩
  have X2 := hide (((unhide X1).put4 _ _ _ _).next hb)
  have V2 := hide (((unhide V1).off4 (by omega) _ _ _ _).next hb)
  have B2 := hide ((bel_put4 (unhide B1) (Nat.le_refl _) _ _ _ _).trans (hb.mono (by have := (unhide B1).size; simp; omega)))
  clear hb cx fx cy fy cz fz
  obtain ⟨cx, fx, gx⟩ := unhide X2
  clear gx
  go_wp2_with fail
  refine (unhide HW _).mono ?_
  rintro e w3 ⟨rfl, hb⟩
  have V3 := hide ((unhide V2).next hb)
  have B3 := hide ((unhide B2).trans (hb.mono (unhide B2).size))
  clear hb cx fx
  obtain ⟨cx, fx, gx⟩ := unhide V3
  go_wp2_with fail
  refine bodyPost_ret (v := rcv t3 l3 r3 n3) (by simp [results, Try.results42, go_sem, cx]) rfl ⟨rfl, ?_⟩
  repeat (refine Below.setCell ?_ (by simp <;> omega) _)
  exact unhide B3

set_option maxRecDepth 100000 in
set_option maxHeartbeats 400000 in
theorem withChoice_none (m : RM) (hi : RM.Inv m) (hl : m.all.length < 4611686018427387902) (c : ChV) (hc : Mach.Chosen c) (h : (RM.place m).2 = true) (w : World) :
    Calls Try.prog 42 #[m.rcd, m.s.val, c.val] w fun e w' => e = .returned (RM.note m c).rcd ∧ Below w.heap.size w w' := by
  have hne := empty_list (RM.traceOf (RM.place m).1) ((RM.place_none hi).1 h)
  have hs := RM.place_s m
  have HR := hide (withRoom_code m hi.ok (fun _ => hi.head))
  have HT := hide (withState_code (RM.place m).1 (RM.place_ok hi.ok) (fun hlt => by have := (RM.place_from hi).2 h; omega))
  have HO := hide (ofChoice_code (RM.save (RM.place m).1).all.length m.s.n hi.ok.legal.n0 c hc)
  have HW := hide (with_code (RM.save (RM.place m).1) (RM.save_again_ok hi h hl) (Frame.ofChoice (RM.save (RM.place m).1).all.length m.s.n.toNat c) (Frame.ofChoice_size _ _ _))
  rw [RM.note_true hi h c]
  rw [hs] at HT
  unfold RM.rcd at *
  generalize Frame.ofChoice (RM.save (RM.place m).1).all.length m.s.n.toNat c = fr at *
  generalize RM.traceOf (RM.put (RM.save (RM.place m).1) fr) = t4 at *
  generalize (RM.put (RM.save (RM.place m).1) fr).room = r4 at *
  generalize (RM.put (RM.save (RM.place m).1) fr).last = l4 at *
  generalize (RM.put (RM.save (RM.place m).1) fr).all.length % 65536 = n4 at *
  generalize RM.traceOf (RM.save (RM.place m).1) = t3 at *
  generalize (RM.save (RM.place m).1).room = r3 at *
  generalize (RM.save (RM.place m).1).last = l3 at *
  generalize (RM.save (RM.place m).1).all.length % 65536 = n3 at *
  generalize RM.traceOf (RM.place m).1 = t2 at *
  generalize (RM.place m).1.room = r2 at *
  generalize (RM.place m).1.last = l2 at *
  generalize (RM.place m).1.all.length % 65536 = n2 at *
  generalize RM.traceOf m = t1 at *
  generalize m.room = r1 at *
  generalize m.last = l1 at *
  generalize m.all.length % 65536 = n1 at *
  clear hs
  generalize m.s = s at *
  clear hi hc h hl
  obtain ⟨n, pc, regs, cells, clock, handler, back, pending, halted⟩ := s
  obtain ⟨input, ticks, interrupt⟩ := c
  go_enter Try.func42, Try.ntmps42
  go_wp2_with fail
  refine (unhide HR _).mono ?_
  rintro e w1 ⟨rfl, hb⟩
  obtain ⟨x1, y1, z1, v1, l1⟩ := four_boxes hb
  have X1 := hide x1
  have Y1 := hide y1
  have Z1 := hide z1
  have V1 := hide v1
  have B1 := hide l1
  clear hb x1 y1 z1 v1 l1
  obtain ⟨cx, fx, gx⟩ := unhide X1
  obtain ⟨cy, fy, gy⟩ := unhide Y1
  clear gx gy
  go_wp2_with fail
  refine (unhide HT _).mono ?_
  rintro e w2 ⟨rfl, hb⟩
  have X2 := hide (((unhide X1).put4 _ _ _ _).next hb)
  have Y2 := hide (((unhide Y1).off4 (by omega) _ _ _ _).next hb)
  have Z2 := hide (((unhide Z1).off4 (by omega) _ _ _ _).next hb)
  have V2 := hide (((unhide V1).off4 (by omega) _ _ _ _).next hb)
  have B2 := hide ((bel_put4 (unhide B1) (Nat.le_refl _) _ _ _ _).trans (hb.mono (by have := (unhide B1).size; simp; omega)))
  clear hb cx fx cy fy
  obtain ⟨cx, fx, gx⟩ := unhide X2
  obtain ⟨cy, fy, gy⟩ := unhide Y2
  obtain ⟨cz, fz, gz⟩ := unhide Z2
  clear gx gy gz
  go_wp2_with fail
  refine (unhide HO _).mono ?_
  rintro e w3 ⟨rfl, hb⟩
  have X3 := hide (((unhide X2).put4 _ _ _ _).next hb)
  have V3 := hide (((unhide V2).off4 (by omega) _ _ _ _).next hb)
  have B3 := hide ((bel_put4 (unhide B2) (Nat.le_refl _) _ _ _ _).trans (hb.mono (by have := (unhide B2).size; simp; omega)))
  clear hb cx fx cy fy cz fz
  obtain ⟨cx, fx, gx⟩ := unhide X3
  clear gx
  go_wp2_with fail
  refine (unhide HW _).mono ?_
  rintro e w4 ⟨rfl, hb⟩
  have V4 := hide ((unhide V3).next hb)
  have B4 := hide ((unhide B3).trans (hb.mono (unhide B3).size))
  clear hb cx fx
  obtain ⟨cx, fx, gx⟩ := unhide V4
  go_wp2_with fail
  refine bodyPost_ret (v := rcv t4 l4 r4 n4) (by simp [results, Try.results42, go_sem, cx]) rfl ⟨rfl, ?_⟩
  repeat (refine Below.setCell ?_ (by simp <;> omega) _)
  exact unhide B4

theorem withChoice_code (m : RM) (hi : RM.Inv m) (hl : m.all.length < 4611686018427387902) (c : ChV) (hc : Mach.Chosen c) (w : World) :
    Calls Try.prog 42 #[m.rcd, m.s.val, c.val] w fun e w' => e = .returned (RM.note m c).rcd ∧ Below w.heap.size w w' := by
  cases h : (RM.place m).2 with
  | false => exact withChoice_some m hi c hc h w
  | true => exact withChoice_none m hi hl c hc h w
end Go.Proofs.Ytbjplijhoibclaa
