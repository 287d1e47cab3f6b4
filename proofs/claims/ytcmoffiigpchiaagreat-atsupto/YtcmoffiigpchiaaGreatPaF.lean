import Derived.Test.YtcmoffiigpchiaaGreatPaC
import Derived.Test.YtcmoffiigpchiaaGreatStepW
import Derived.Test.YtcmoffiigpchiaaGreatBoxW
import Derived.Test.YtcmoffiigpchiaaGreatCheckW
namespace Go.Proofs.YtcmoffiigpchiaaGreat
open Go.RowKit

theorem taken_on {l : List Hist.En} {j : Nat} {n : Int} {e : Hist.En} (hx : l[j]? = some e) (h : comesB l j n false = true) : Hist.taken n (l.drop j) = (e.c, l.drop (j + 1)) := by
  have hj := (List.getElem?_eq_some_iff.1 hx).1
  have hd : l.drop j = e :: l.drop (j + 1) := by
    rw [List.drop_eq_getElem_cons hj]
    congr 1
    rw [List.getElem?_eq_getElem hj] at hx
    exact Option.some.inj hx
  unfold comesB at h
  rw [hx] at h
  simp at h
  rw [hd]
  simp [Hist.taken, h.1, h.2]
theorem taken_off {l : List Hist.En} {j : Nat} {n : Int} (h : comesB l j n false = false) : Hist.taken n (l.drop j) = (Hist.noCh, l.drop j) := by
  unfold comesB at h
  cases hx : l[j]? with
  | none =>
    have hjl : l.length ≤ j := by
      rcases Nat.lt_or_ge j l.length with h' | h'
      · rw [List.getElem?_eq_getElem h'] at hx; cases hx
      · exact h'
    rw [List.drop_eq_nil_of_le hjl]
    rfl
  | some e =>
    have hj := (List.getElem?_eq_some_iff.1 hx).1
    have hd : l.drop j = e :: l.drop (j + 1) := by
      rw [List.drop_eq_getElem_cons hj]
      congr 1
      rw [List.getElem?_eq_getElem hj] at hx
      exact Option.some.inj hx
    rw [hx] at h
    simp at h
    rw [hd]
    have : ¬ (e.st = false ∧ (e.n : Int) = n) := fun hh => h hh.1 hh.2
    simp [Hist.taken, this]
/-- What is left of the run behind the choice, as it lies. -/
def NextA (w wx : World) (l : List Hist.En) (g cap j : Nat) (n : Int) (s : StV) (k : Bool) (c : ChV) : Prop :=
  ∃ j1 o1, j1 ≤ l.length ∧ (j1 < l.length → o1 = j1 * 15) ∧ (Hist.taken n (l.drop j)).2 = l.drop j1 ∧ Box wx w.heap.size (pcells n s k (slF g cap l.length j1 o1)) ∧ Box wx (w.heap.size + 1) #[.int .i64 0, .int .i64 0, .int .i64 0, .string ⟨#[]⟩, .string ⟨#[]⟩, .int .i64 0, .int .i64 0, .int .i64 0, .bool false, .bool false, .bool false, .slice none 0 0] ∧ Box wx (w.heap.size + 1 + 1) #[.int .i64 c.input, .int .i64 c.ticks, .bool c.interrupt] ∧ LiesF wx g l ∧ Below w.heap.size w wx
theorem third_new (w : World) (X Y : Obj) (C : Array Value) (t : TypeId) : Box (((w.alloc X).alloc Y).alloc (.cells C t)) (w.heap.size + 1 + 1) C := by
  have h := Box.new ((w.alloc X).alloc Y) C t
  rw [show ((w.alloc X).alloc Y).heap.size = w.heap.size + 1 + 1 by simp] at h
  exact h
theorem sec_box (w : World) (X : Obj) (C : Array Value) (t : TypeId) : Box ((w.alloc X).alloc (.cells C t)) (w.heap.size + 1) C := by
  have h := Box.new (w.alloc X) C t
  rw [show (w.alloc X).heap.size = w.heap.size + 1 by simp] at h
  exact h

set_option maxRecDepth 100000 in
set_option maxHeartbeats 4000000 in
theorem next_code (p : ByteArray) (hp : p.size ≤ maxLen) (l : List Hist.En) (g cap j o : Nat) (ho : j < l.length → o = j * 15) (hj : j ≤ l.length) (hc : l.length ≤ cap) (hl : l.length < 1000000) (n : Int) (hn0 : 0 ≤ n) (hn1 : n ≤ 1000000) (s : StV) (k : Bool) (w : World) (hL : LiesF w g l) :
    Calls Tryz.prog 90 #[pval n s k (slF g cap l.length j o), .string p] w fun r w' => ∃ v, r = .returned v ∧ Told l g cap (Hist.nextP p ⟨n, s, k, l.drop j⟩) v ∧ Below w.heap.size w w' := by
  have HC := fun w1 => hide (fun (h : LiesF w1 g l) => comes_code l g cap j o ho hj hl n s k false w1 h)
  obtain ⟨c, hc'⟩ : ∃ c, c = (Hist.taken n (l.drop j)).1 := ⟨_, rfl⟩
  have HS := hide (step_code p s c hp)
  obtain ⟨y, hy⟩ : ∃ y : StV × Int, y = if k = true then Mach.step p s c else (s, 1) := ⟨_, rfl⟩
  have HT := fun w1 j1 o1 => hide (fun (h1 : j1 < l.length → o1 = j1 * 15) (h2 : j1 ≤ l.length) (h : LiesF w1 g l) => told_code l g cap j1 o1 h1 h2 hc hl (n + 1) y.1 (decide (y.2 = 0)) w1 h)
  have HX : Hid (∀ j1, (Hist.taken n (l.drop j)).2 = l.drop j1 → Hist.nextP p ⟨n, s, k, l.drop j⟩ = Hist.told (n + 1) y.1 (decide (y.2 = 0)) (l.drop j1)) := hide (fun j1 h => by
    unfold Hist.nextP
    simp only
    rw [← hc', ← hy, h])
  generalize Hist.nextP p ⟨n, s, k, l.drop j⟩ = GX at *
  have HCC := hide hc'
  have HY := hide hy
  have HL := hide hL
  have hg := hL.lt
  clear hc' hy hL
  obtain ⟨sn, pc, regs, cells, clock, handler, back, pending, halted⟩ := s
  obtain ⟨ci, ct, cb⟩ := c
  go_enter Tryz.func90, Tryz.ntmps90
  go_upto_region 2 with fail
  have X0 := hide (((Box.new w #[.int .i64 n, .int .i64 sn, .int .i64 pc, .string regs, .string cells, .int .i64 clock, .int .i64 handler, .int .i64 back, .bool pending, .bool halted, .bool k, slF g cap l.length j o] 124).alloc (.cells #[.int .i64 0, .int .i64 0, .int .i64 0, .string ⟨#[]⟩, .string ⟨#[]⟩, .int .i64 0, .int .i64 0, .int .i64 0, .bool false, .bool false, .bool false, .slice none 0 0] 124)).alloc (.cells #[.int .i64 0, .int .i64 0, .bool false] 32))
  have Y0 := hide ((sec_box w (.cells #[.int .i64 n, .int .i64 sn, .int .i64 pc, .string regs, .string cells, .int .i64 clock, .int .i64 handler, .int .i64 back, .bool pending, .bool halted, .bool k, slF g cap l.length j o] 124) #[.int .i64 0, .int .i64 0, .int .i64 0, .string ⟨#[]⟩, .string ⟨#[]⟩, .int .i64 0, .int .i64 0, .int .i64 0, .bool false, .bool false, .bool false, .slice none 0 0] 124).alloc (.cells #[.int .i64 0, .int .i64 0, .bool false] 32))
  have Z0 := hide (third_new w (.cells #[.int .i64 n, .int .i64 sn, .int .i64 pc, .string regs, .string cells, .int .i64 clock, .int .i64 handler, .int .i64 back, .bool pending, .bool halted, .bool k, slF g cap l.length j o] 124) (.cells #[.int .i64 0, .int .i64 0, .int .i64 0, .string ⟨#[]⟩, .string ⟨#[]⟩, .int .i64 0, .int .i64 0, .int .i64 0, .bool false, .bool false, .bool false, .slice none 0 0] 124) #[.int .i64 0, .int .i64 0, .bool false] 32)
  have B0 := hide ((((Below.refl w.heap.size w).alloc (Nat.le_refl _) (.cells #[.int .i64 n, .int .i64 sn, .int .i64 pc, .string regs, .string cells, .int .i64 clock, .int .i64 handler, .int .i64 back, .bool pending, .bool halted, .bool k, slF g cap l.length j o] 124)).alloc (by simp) (.cells #[.int .i64 0, .int .i64 0, .int .i64 0, .string ⟨#[]⟩, .string ⟨#[]⟩, .int .i64 0, .int .i64 0, .int .i64 0, .bool false, .bool false, .bool false, .slice none 0 0] 124)).alloc (by simp; omega) (.cells #[.int .i64 0, .int .i64 0, .bool false] 32))
  have L0 := hide ((unhide HL).next (unhide B0))
  generalize ((w.alloc (.cells #[.int .i64 n, .int .i64 sn, .int .i64 pc, .string regs, .string cells, .int .i64 clock, .int .i64 handler, .int .i64 back, .bool pending, .bool halted, .bool k, slF g cap l.length j o] 124)).alloc (.cells #[.int .i64 0, .int .i64 0, .int .i64 0, .string ⟨#[]⟩, .string ⟨#[]⟩, .int .i64 0, .int .i64 0, .int .i64 0, .bool false, .bool false, .bool false, .slice none 0 0] 124)).alloc (.cells #[.int .i64 0, .int .i64 0, .bool false] 32) = wy at *
  obtain ⟨cx, fx, gx⟩ := unhide X0
  clear gx
  simp only [pval, pcells] at HC
  go_upto_if 10 with (go_at_call 115; refine (unhide (HC _) (unhide L0)).mono ?_; rintro e0 w1 ⟨rfl, hb⟩; have X1 := hide ((unhide X0).next hb); have Y1 := hide ((unhide Y0).next hb); have Z1 := hide ((unhide Z0).next hb); have L1 := hide ((unhide L0).next hb); have B1 := hide ((unhide B0).trans (hb.mono (unhide B0).size)); clear hb cx fx)
  go_cut [] (fun wx => NextA w wx l g cap j n ⟨sn, pc, regs, cells, clock, handler, back, pending, halted⟩ k ⟨ci, ct, cb⟩)
  case first =>
    cases hco : comesB l j n false with
    | false =>
      have htk := taken_off hco
      have hcz : (⟨ci, ct, cb⟩ : ChV) = Hist.noCh := by rw [unhide HCC, htk]
      have HTK := hide htk
      cases hcz
      clear htk hco
      go_wp2_with fail
      go_meet
      case rel => exact ⟨j, o, hj, ho, by rw [unhide HTK], unhide X1, unhide Y1, unhide Z1, unhide L1, unhide B1⟩
    | true =>
      obtain ⟨e, he⟩ := comes_at hco
      have htk := taken_on he hco
      have hcz : (⟨ci, ct, cb⟩ : ChV) = e.c := by rw [unhide HCC, htk]
      have HTK := hide htk
      have hjl : j < l.length := (List.getElem?_eq_some_iff.1 he).1
      obtain rfl := ho hjl
      obtain ⟨m, hm⟩ : ∃ m, l.length - j = m + 1 := ⟨l.length - j - 1, by omega⟩
      obtain ⟨c, hcc⟩ : ∃ c, cap - j = c + 1 := ⟨cap - j - 1, by omega⟩
      have hr := (unhide L1).at_ j e he
      obtain ⟨est, ek, en, es, ⟨ei, et, eb⟩⟩ := e
      cases hcz
      have r12 := hr 12 _ rfl
      have r13 := hr 13 _ rfl
      have r14 := hr 14 _ rfl
      simp only at r12 r13 r14
      simp only [slF, hm, hcc] at X1
      have hj1 : j + 1 ≤ l.length := by omega
      have HE1 : Hid (l.length - (j + 1) = m) := hide (by omega)
      have HE2 : Hid (cap - (j + 1) = c) := hide (by omega)
      have HO1 : Hid (j + 1 < l.length → c ≠ 0) := hide (by intro h; omega)
      have i1 : (1 : Int) ≤ ((m + 1 : Nat) : Int) := by omega
      have i2 : (1 : Int) ≤ (m : Int) + 1 := by omega
      obtain ⟨cx, fx, gx⟩ := unhide X1
      obtain ⟨cz, fz, gz⟩ := unhide Z1
      clear hm hcc hco htk hr gx gz hj ho hjl he
      cases c with
      | zero =>
        go_wp2_with fail
        go_meet
        case rel =>
          refine ⟨j + 1, j * 15, hj1, (fun h => absurd rfl (unhide HO1 h)), by rw [unhide HTK], ?_, ?_, ?_, ?_, ?_⟩
          · simp only [pcells, slF]
            rw [unhide HE1, unhide HE2]
            have h := (Box.off (Box.off (Box.off (unhide X1) (a := ⟨w.heap.size + 1 + 1, 0, none⟩) (by simp; omega) (.int .i64 ci)) (a := ⟨w.heap.size + 1 + 1, 1, none⟩) (by simp; omega) (.int .i64 ct)) (a := ⟨w.heap.size + 1 + 1, 2, none⟩) (by simp; omega) (.bool cb)).set 11 (.slice (some ⟨g, j * 15, none⟩) m 0) (by simp)
            simpa using h
          · repeat (refine Box.off ?_ (by simp) _)
            exact unhide Y1
          · exact Box.off ((unhide Z1).put3 _ _ _) (by simp; omega) _
          · refine (unhide L1).keep (o := [w.heap.size, w.heap.size + 1 + 1]) ?_ (by simp; omega)
            repeat (refine Keeps.setCell ?_ (by simp) _)
            exact Keeps.refl _ _
          · repeat (refine Below.setCell ?_ (by simp <;> omega) _)
            exact unhide B1
      | succ c =>
        have i3 : ¬ c + 1 + 1 = 1 := by omega
        go_wp2_with fail
        go_meet
        case rel =>
          refine ⟨j + 1, j * 15 + 15, hj1, (fun _ => by omega), by rw [unhide HTK], ?_, ?_, ?_, ?_, ?_⟩
          · simp only [pcells, slF]
            rw [unhide HE1, unhide HE2]
            have h := (Box.off (Box.off (Box.off (unhide X1) (a := ⟨w.heap.size + 1 + 1, 0, none⟩) (by simp; omega) (.int .i64 ci)) (a := ⟨w.heap.size + 1 + 1, 1, none⟩) (by simp; omega) (.int .i64 ct)) (a := ⟨w.heap.size + 1 + 1, 2, none⟩) (by simp; omega) (.bool cb)).set 11 (.slice (some ⟨g, j * 15 + 15, none⟩) m (c + 1)) (by simp)
            simpa using h
          · repeat (refine Box.off ?_ (by simp) _)
            exact unhide Y1
          · exact Box.off ((unhide Z1).put3 _ _ _) (by simp; omega) _
          · refine (unhide L1).keep (o := [w.heap.size, w.heap.size + 1 + 1]) ?_ (by simp; omega)
            repeat (refine Keeps.setCell ?_ (by simp) _)
            exact Keeps.refl _ _
          · repeat (refine Below.setCell ?_ (by simp <;> omega) _)
            exact unhide B1
  case rest =>
    obtain ⟨j1, o1, hj1, ho1, htk, x1, y1, z1, l1, b1⟩ := hcut
    have X2 := hide x1
    have Y2 := hide y1
    have Z2 := hide z1
    have L2 := hide l1
    have B2 := hide b1
    have HGX := hide (unhide HX j1 htk)
    have HTT := hide (fun w1 h => unhide (HT w1 j1 o1) ho1 hj1 h)
    clear x1 y1 z1 l1 b1 htk HX HT X1 Y1 Z1 L1 B1 X0 Y0 Z0 L0 B0 hj ho hc hl HC HCC
    simp only [pcells] at X2
    obtain ⟨⟨sn', pc', regs', cells', clock', handler', back', pending', halted'⟩, er⟩ := y
    obtain ⟨cx, fx, gx⟩ := unhide X2
    obtain ⟨cz, fz, gz⟩ := unhide Z2
    clear gx gz
    go_upto_if 21 with fail
    go_cut [] (fun wx => Box wx w.heap.size #[.int .i64 n, .int .i64 sn', .int .i64 pc', .string regs', .string cells', .int .i64 clock', .int .i64 handler', .int .i64 back', .bool pending', .bool halted', .bool (decide (er = 0)), slF g cap l.length j1 o1] ∧ Box wx (w.heap.size + 1) #[.int .i64 0, .int .i64 0, .int .i64 0, .string ⟨#[]⟩, .string ⟨#[]⟩, .int .i64 0, .int .i64 0, .int .i64 0, .bool false, .bool false, .bool false, .slice none 0 0] ∧ LiesF wx g l ∧ Below w.heap.size w wx)
    case first =>
      cases k with
      | false =>
        have hyy := unhide HY
        simp only [Bool.false_eq_true, if_false, Prod.mk.injEq, StV.mk.injEq] at hyy
        obtain ⟨⟨q1, q2, q3, q4, q5, q6, q7, q8, q9⟩, q10⟩ := hyy
        subst q1 q2 q3 q4 q5 q6 q7 q8 q9 q10
        go_wp2_with fail
        go_meet
        case rel => exact ⟨unhide X2, unhide Y2, unhide L2, unhide B2⟩
      | true =>
        have hyy := unhide HY
        simp only [if_true] at hyy
        rw [← hyy] at HS
        simp only at HS
        clear hyy
        go_wp2_with fail
        refine (unhide HS _).mono ?_
        rintro e0 w3 ⟨rfl, hb⟩
        have X3 := hide ((unhide X2).next hb)
        have Y3 := hide ((unhide Y2).next hb)
        have L3 := hide ((unhide L2).next hb)
        have B3 := hide ((unhide B2).trans (hb.mono (unhide B2).size))
        have hlt3 := (unhide X3).lt
        clear hb cx fx cz fz
        go_upto_region 7 with fail
        have X4 := hide ((unhide X3).alloc (.cells #[.int .i64 sn', .int .i64 pc', .string regs', .string cells', .int .i64 clock', .int .i64 handler', .int .i64 back', .bool pending', .bool halted'] 30))
        have Y4 := hide ((unhide Y3).alloc (.cells #[.int .i64 sn', .int .i64 pc', .string regs', .string cells', .int .i64 clock', .int .i64 handler', .int .i64 back', .bool pending', .bool halted'] 30))
        have V4 := hide (Box.new w3 #[.int .i64 sn', .int .i64 pc', .string regs', .string cells', .int .i64 clock', .int .i64 handler', .int .i64 back', .bool pending', .bool halted'] 30)
        have L4 := hide ((unhide L3).next ((Below.refl w3.heap.size w3).alloc (Nat.le_refl _) (.cells #[.int .i64 sn', .int .i64 pc', .string regs', .string cells', .int .i64 clock', .int .i64 handler', .int .i64 back', .bool pending', .bool halted'] 30)))
        have B4 := hide ((unhide B3).alloc (unhide B3).size (.cells #[.int .i64 sn', .int .i64 pc', .string regs', .string cells', .int .i64 clock', .int .i64 handler', .int .i64 back', .bool pending', .bool halted'] 30))
        have hnw : ¬ w3.heap.size = w.heap.size := by omega
        have hnw2 : ¬ w.heap.size = w3.heap.size := by omega
        generalize w3.alloc (.cells #[.int .i64 sn', .int .i64 pc', .string regs', .string cells', .int .i64 clock', .int .i64 handler', .int .i64 back', .bool pending', .bool halted'] 30) = w4 at *
        obtain ⟨cx, fx, gx⟩ := unhide X4
        obtain ⟨cv, fv', gv⟩ := unhide V4
        clear gx gv
        go_wp2_with fail
        go_meet
        case rel =>
          refine ⟨?_, ?_, ?_, ?_⟩
          · have h := ((unhide X4).putN (.int .i64 sn') (.int .i64 pc') (.string regs') (.string cells') (.int .i64 clock') (.int .i64 handler') (.int .i64 back') (.bool pending') (.bool halted')).set 10 (.bool (er == 0)) (by simp)
            have e : (er == 0) = decide (er = 0) := rfl
            rw [e] at h ⊢
            simpa using h
          · repeat (refine Box.off ?_ (by simp) _)
            exact unhide Y4
          · refine (unhide L4).keep (o := [w.heap.size]) ?_ (by simp; omega)
            repeat (refine Keeps.setCell ?_ (by simp) _)
            exact Keeps.refl _ _
          · repeat (refine Below.setCell ?_ (by simp) _)
            exact unhide B4
    case rest =>
      obtain ⟨x1, y1, l1, b1⟩ := hcut
      have X5 := hide x1
      have Y5 := hide y1
      have L5 := hide l1
      have B5 := hide b1
      clear x1 y1 l1 b1 cx fx cz fz X2 Y2 Z2 L2 B2
      obtain ⟨cx, fx, gx⟩ := unhide X5
      clear gx
      go_upto_region 10 with fail
      have X6 := hide ((unhide X5).set 0 (.int .i64 (n + 1)) (by simp))
      rw [show (#[.int .i64 n, .int .i64 sn', .int .i64 pc', .string regs', .string cells', .int .i64 clock', .int .i64 handler', .int .i64 back', .bool pending', .bool halted', .bool (decide (er = 0)), slF g cap l.length j1 o1] : Array Value).setIfInBounds 0 (.int .i64 (n + 1)) = #[.int .i64 (n + 1), .int .i64 sn', .int .i64 pc', .string regs', .string cells', .int .i64 clock', .int .i64 handler', .int .i64 back', .bool pending', .bool halted', .bool (decide (er = 0)), slF g cap l.length j1 o1] by simp] at X6
      have Y6 := hide (Box.off (unhide Y5) (a := ⟨w.heap.size, 0, none⟩) (by simp) (.int .i64 (n + 1)))
      have B6 := hide ((unhide B5).setCell (p := ⟨w.heap.size, 0, none⟩) (by simp) (.int .i64 (n + 1)))
      have L6 := hide ((unhide L5).keep (o := [w.heap.size]) ((Keeps.refl wc [w.heap.size]).setCell (a := ⟨w.heap.size, 0, none⟩) (by simp) (.int .i64 (n + 1))) (by simp; omega))
      generalize wc.setCell ⟨w.heap.size, 0, none⟩ (.int .i64 (n + 1)) = wd at *
      clear cx fx
      obtain ⟨cx, fx, gx⟩ := unhide X6
      clear gx
      simp only [pval, pcells] at HTT
      go_wp2_with fail
      refine (unhide HTT _ (unhide L6)).mono ?_
      rintro r w7 ⟨v, rfl, ht, hb⟩
      rw [← unhide HGX] at ht
      obtain ⟨xn, ⟨xsn, xpc, xregs, xcells, xclock, xhandler, xback, xpending, xhalted⟩, xk, xl⟩ := GX
      obtain ⟨j', o', t1, t2, t3, rfl⟩ := ht
      have Y7 := hide ((unhide Y6).next hb)
      have B7 := hide ((unhide B6).trans (hb.mono (unhide B6).size))
      clear hb cx fx
      obtain ⟨cy, fy, gy⟩ := unhide Y7
      clear gy
      have HR := hide (⟨j', o', t1, t2, t3, rfl⟩ : Told l g cap ⟨xn, ⟨xsn, xpc, xregs, xcells, xclock, xhandler, xback, xpending, xhalted⟩, xk, xl⟩ (pval xn ⟨xsn, xpc, xregs, xcells, xclock, xhandler, xback, xpending, xhalted⟩ xk (slF g cap l.length j' o')))
      clear t1 t2 t3
      have cz := ((unhide Y7).putQ (.int .i64 xn) (.int .i64 xsn) (.int .i64 xpc) (.string xregs) (.string xcells) (.int .i64 xclock) (.int .i64 xhandler) (.int .i64 xback) (.bool xpending) (.bool xhalted) (.bool xk) (slF g cap l.length j' o')).c
      go_wp2_with fail
      refine bodyPost_ret (v := pval xn ⟨xsn, xpc, xregs, xcells, xclock, xhandler, xback, xpending, xhalted⟩ xk (slF g cap l.length j' o')) (by simp [results, Tryz.results90, go_sem, cz]) rfl ⟨_, rfl, unhide HR, ?_⟩
      repeat (refine Below.setCell ?_ (by simp) _)
      exact unhide B7
end Go.Proofs.YtcmoffiigpchiaaGreat

namespace Go.Proofs.YtcmoffiigpchiaaGreat
open Go.RowKit

set_option maxRecDepth 100000 in
set_option maxHeartbeats 4000000 in
/-- At, where the time is not within the run. -/
theorem hat_out (p : ByteArray) (l : List Hist.En) (v : Value) (n er : Int) (w0 w : World) (hR : Hist.IsRun l) (hl : l.length < 1000000) (hF : FRow w0 w v l)
    (hx : (Hist.spanErr l = er ∧ er ≠ 0) ∨ (Hist.spanErr l = 0 ∧ n < Hist.firstN l ∧ er = 7) ∨ (Hist.spanErr l = 0 ∧ ¬ n < Hist.firstN l ∧ Hist.lastTo l < n ∧ er = 8)) :
    Calls Tryz.prog 61 #[.string p, v, .int .i64 n] w fun e w' => e = .returned (.tuple #[Mach.zero.val, .int .i64 er]) ∧ Below w.heap.size w w' := by
  have HS := fun w1 => hide (fun (h : FRow w0 w1 v l) => span_code hR (by omega) h)
  have HF := hide hF
  clear hF hR hl
  generalize Hist.firstN l = f1 at *
  generalize Hist.lastTo l = f2 at *
  generalize Hist.spanErr l = f3 at *
  rcases hx with ⟨rfl, h1⟩ | ⟨rfl, h1, rfl⟩ | ⟨rfl, h1, h2, rfl⟩
  · have d : (f3 != 0) = true := by simp [h1]
    clear h1
    go_enter Tryz.func61, Tryz.ntmps61
    go_wp2_with fail
    refine (unhide (HS _) ((unhide HF).next ((Below.refl _ _).alloc (Nat.le_refl _) _))).mono ?_
    rintro e w1 ⟨rfl, hb⟩
    have X1 := hide ((Box.new w #[.int .i64 0, .int .i64 0, .string ⟨#[]⟩, .string ⟨#[]⟩, .int .i64 0, .int .i64 0, .int .i64 0, .bool false, .bool false] 30).next hb)
    have B1 := hide (bel_alloc hb)
    clear hb
    obtain ⟨cx, fx, gx⟩ := unhide X1
    clear gx
    have cz := (nine_boxR (unhide X1) (.int .i64 0) (.int .i64 0) (.string ⟨#[]⟩) (.string ⟨#[]⟩) (.int .i64 0) (.int .i64 0) (.int .i64 0) (.bool false) (.bool false)).c
    go_wp2_with fail
    refine bodyPost_ret (v := .tuple #[.agg #[.int .i64 0, .int .i64 0, .string ⟨#[]⟩, .string ⟨#[]⟩, .int .i64 0, .int .i64 0, .int .i64 0, .bool false, .bool false], .int .i64 f3]) (by simp [results, Tryz.results61, go_sem, cz]) rfl ⟨rfl, ?_⟩
    repeat (refine Below.setCell ?_ (by simp) _)
    exact unhide B1
  · go_enter Tryz.func61, Tryz.ntmps61
    go_wp2_with fail
    refine (unhide (HS _) ((unhide HF).next ((Below.refl _ _).alloc (Nat.le_refl _) _))).mono ?_
    rintro e w1 ⟨rfl, hb⟩
    have X1 := hide ((Box.new w #[.int .i64 0, .int .i64 0, .string ⟨#[]⟩, .string ⟨#[]⟩, .int .i64 0, .int .i64 0, .int .i64 0, .bool false, .bool false] 30).next hb)
    have B1 := hide (bel_alloc hb)
    clear hb
    obtain ⟨cx, fx, gx⟩ := unhide X1
    clear gx
    have cz := (nine_boxR (unhide X1) (.int .i64 0) (.int .i64 0) (.string ⟨#[]⟩) (.string ⟨#[]⟩) (.int .i64 0) (.int .i64 0) (.int .i64 0) (.bool false) (.bool false)).c
    go_wp2_with fail
    refine bodyPost_ret (v := .tuple #[.agg #[.int .i64 0, .int .i64 0, .string ⟨#[]⟩, .string ⟨#[]⟩, .int .i64 0, .int .i64 0, .int .i64 0, .bool false, .bool false], .int .i64 7]) (by simp [results, Tryz.results61, go_sem, cz]) rfl ⟨rfl, ?_⟩
    repeat (refine Below.setCell ?_ (by simp) _)
    exact unhide B1
  · go_enter Tryz.func61, Tryz.ntmps61
    go_wp2_with fail
    refine (unhide (HS _) ((unhide HF).next ((Below.refl _ _).alloc (Nat.le_refl _) _))).mono ?_
    rintro e w1 ⟨rfl, hb⟩
    have X1 := hide ((Box.new w #[.int .i64 0, .int .i64 0, .string ⟨#[]⟩, .string ⟨#[]⟩, .int .i64 0, .int .i64 0, .int .i64 0, .bool false, .bool false] 30).next hb)
    have B1 := hide (bel_alloc hb)
    clear hb
    obtain ⟨cx, fx, gx⟩ := unhide X1
    clear gx
    have cz := (nine_boxR (unhide X1) (.int .i64 0) (.int .i64 0) (.string ⟨#[]⟩) (.string ⟨#[]⟩) (.int .i64 0) (.int .i64 0) (.int .i64 0) (.bool false) (.bool false)).c
    go_wp2_with fail
    refine bodyPost_ret (v := .tuple #[.agg #[.int .i64 0, .int .i64 0, .string ⟨#[]⟩, .string ⟨#[]⟩, .int .i64 0, .int .i64 0, .int .i64 0, .bool false, .bool false], .int .i64 8]) (by simp [results, Tryz.results61, go_sem, cz]) rfl ⟨rfl, ?_⟩
    repeat (refine Below.setCell ?_ (by simp) _)
    exact unhide B1

/-- How many steps are left. -/
def leftAt (w : World) (b : Nat) (n : Int) : Nat := match w.cell? ⟨b, 0, none⟩ with
  | some (.int _ x) => (n - x).toNat
  | _ => 0
theorem leftAt_box {w : World} {b : Nat} {ca : Array Value} {k : IntKind} {x n : Int} (h : Box w b ca) (h0 : ca[0]? = some (.int k x)) : leftAt w b n = (n - x).toNat := by
  unfold leftAt
  rw [h.c 0, h0]
/-- What holds while the program goes up to a time. -/
def AtInv (w wr : World) (l : List Hist.En) (g cap b : Nat) (x : Hist.Pt) : Prop :=
  ∃ j o, j ≤ l.length ∧ (j < l.length → o = j * 15) ∧ x.later = l.drop j ∧ Box wr b (pcells x.n x.s x.known (slF g cap l.length j o)) ∧ Box wr w.heap.size #[.int .i64 0, .int .i64 0, .string ⟨#[]⟩, .string ⟨#[]⟩, .int .i64 0, .int .i64 0, .int .i64 0, .bool false, .bool false] ∧ LiesF wr g l ∧ w.heap.size < b ∧ Below w.heap.size w wr

set_option maxRecDepth 100000 in
set_option maxHeartbeats 4000000 in
/-- At, where it is. -/
theorem hat_in (p : ByteArray) (hp : p.size ≤ maxLen) (hg : (Code.chk p).1 = 0) (l : List Hist.En) (g cap : Nat) (n : Int) (w0 w : World) (hR : Hist.IsRun l) (hl : l.length < 1000000) (hF : FRow w0 w (.slice (some ⟨g, 0, none⟩) l.length cap) l) (hcap : l.length ≤ cap)
    (hne : l ≠ []) (h1 : Hist.firstN l ≤ n) (h2 : n ≤ Hist.lastTo l) (h3 : Hist.lastTo l ≤ 20000) (rs : StV) (re : Int) (hr : (rs, re) = match Hist.stood p l n with | some s => (s, 0) | none => (Mach.zero, 9)) :
    Calls Tryz.prog 61 #[.string p, .slice (some ⟨g, 0, none⟩) l.length cap, .int .i64 n] w fun e w' => e = .returned (.tuple #[rs.val, .int .i64 re]) ∧ Below w.heap.size w w' := by
  have hT : Hist.Tells l n := ⟨hR, hne, h1⟩
  obtain ⟨hsd, e0, he0, hf0, hle0, hR', hne'⟩ := Hist.stood_drop (p := p) hT
  have hse : Hist.spanErr l = 0 := by unfold Hist.spanErr; simp [hne]
  have HS := fun w1 => hide (fun (h : FRow w0 w1 (.slice (some ⟨g, 0, none⟩) l.length cap) l) => span_code hR (by omega) h)
  rw [hse] at HS
  have HSi := fun w1 => hide (fun h => since_code l g cap hne hcap hl n w1 h)
  have HB := fun w1 => hide (fun h => begin_code l g cap (Hist.fromOf l n) e0 he0 hcap hl w1 h)
  have HN := fun w1 j o s k (x : Int) => hide (fun h1 h2 h3 h4 h5 => next_code p hp l g cap j o h1 h2 hcap hl x h3 h4 s k w1 h5)
  have HW := hide (Hist.walk_meets (p := p) hg hR' hne')
  rw [hf0] at HW
  have HF := hide hF
  have HL := hide (LiesF.of (w := w0) hF.choose_spec.choose_spec.2.1)
  obtain ⟨Wk, hWk⟩ : ∃ W, W = Hist.walk p (l.drop (Hist.fromOf l n)) := ⟨_, rfl⟩
  have hW0 : Hist.beginP (l.drop (Hist.fromOf l n)) = Wk 0 := by rw [hWk]; rfl
  have HWS : Hid (∀ k, Hist.nextP p (Wk k) = Wk (k + 1)) := hide (fun k => by rw [hWk]; rfl)
  rw [← hWk] at HW
  rw [hW0] at HB
  have HSD := hide hsd
  have HR := hide hr
  have he00 : (0 : Int) ≤ e0.n := by omega
  clear hWk hW0 hsd hr hF hR hR' hne' he0 hf0 hse hT hne
  generalize hst : Hist.stood p l n = SO at *
  generalize Hist.firstN l = f1 at *
  generalize Hist.lastTo l = f2 at *
  generalize ((e0.n : Nat) : Int) = t0 at *
  generalize hfr : Hist.fromOf l n = fr at *
  go_enter Tryz.func61, Tryz.ntmps61
  go_wp2_with fail
  refine (unhide (HS _) ((unhide HF).next ((Below.refl _ _).alloc (Nat.le_refl _) _))).mono ?_
  rintro e w1 ⟨rfl, hb⟩
  have Y1 := hide ((Box.new w #[.int .i64 0, .int .i64 0, .string ⟨#[]⟩, .string ⟨#[]⟩, .int .i64 0, .int .i64 0, .int .i64 0, .bool false, .bool false] 30).next hb)
  have L1 := hide (((unhide HL).next ((Below.refl _ _).alloc (Nat.le_refl _) _)).next hb)
  have B1 := hide (bel_alloc hb)
  clear hb
  go_wp2_with fail
  refine (unhide (HSi _) (unhide L1)).mono ?_
  rintro e w2 ⟨rfl, hw⟩
  obtain rfl := hw.symm
  go_wp2_with fail
  refine (unhide (HB _) (unhide L1)).mono ?_
  rintro e w3 ⟨v, rfl, ht, hb⟩
  obtain ⟨j, o, t1, t2, t3, rfl⟩ := ht
  have Y3 := hide ((unhide Y1).next hb)
  have L3 := hide ((unhide L1).next hb)
  have B3 := hide ((unhide B1).trans (hb.mono (unhide B1).size))
  have hlt3 := (unhide Y3).lt
  clear hb
  have I0 : Hid (AtInv w (w3.alloc (.cells (pcells (Wk 0).n (Wk 0).s (Wk 0).known (slF g cap l.length j o)) 124)) l g cap w3.heap.size (Wk 0)) := hide ⟨j, o, t1, t2, t3, Box.new w3 _ _, (unhide Y3).alloc _, (unhide L3).next ((Below.refl _ _).alloc (Nat.le_refl _) _), by omega, (unhide B3).alloc (unhide B3).size _⟩
  clear t1 t2 t3
  go_wp2_with fail
  go_loopw [] (fun wr => ∃ k : Nat, t0 + k ≤ n ∧ AtInv w wr l g cap w3.heap.size (Wk k)) (fun wr => leftAt wr w3.heap.size n)
  case atStart => exact ⟨0, by omega, unhide I0⟩
  case round =>
    obtain ⟨k, hk, j, o, hj, ho, hla, hX, hY, hLL, hbb, hB⟩ := hrel
    have X4 := hide hX
    have Y4 := hide hY
    have L4 := hide hLL
    have B4 := hide hB
    have hm := unhide HW k
    have ht := hm.time
    have HOPT := hide hm.opt
    have HPE : Hid ((⟨(Wk k).n, (Wk k).s, (Wk k).known, l.drop j⟩ : Hist.Pt) = Wk k) := hide (by rw [← hla])
    clear hX hY hLL hB hm I0
    simp only [pcells] at X4
    obtain ⟨cx, fx, gx⟩ := unhide X4
    clear gx
    by_cases hlt : (Wk k).n < n
    · have HNN := hide (unhide (HN wr j o (Wk k).s (Wk k).known (Wk k).n) ho hj (by omega) (by omega) (unhide L4))
      rw [unhide HPE, unhide HWS] at HNN
      simp only [pval, pcells] at HNN
      have hk2 : t0 + ((k + 1 : Nat) : Int) ≤ n := by omega
      have ht2 := (unhide HW (k + 1)).time
      have HTI := hide ht
      have HTI2 := hide ht2
      clear ht ht2 hk
      go_wp2_with fail
      refine (unhide HNN).mono ?_
      rintro e w5 ⟨v, rfl, htt, hb⟩
      obtain ⟨j', o', t1, t2, t3, rfl⟩ := htt
      have X5 := hide ((unhide X4).next hb)
      have Y5 := hide ((unhide Y4).next hb)
      have L5 := hide ((unhide L4).next hb)
      have B5 := hide ((unhide B4).trans (hb.mono (unhide B4).size))
      have hg5 := (unhide HL).lt
      clear hb cx fx
      obtain ⟨cx, fx, gx⟩ := unhide X5
      clear gx
      have X6 := hide ((unhide X5).putQ (.int .i64 (Wk (k + 1)).n) (.int .i64 (Wk (k + 1)).s.n) (.int .i64 (Wk (k + 1)).s.pc) (.string (Wk (k + 1)).s.regs) (.string (Wk (k + 1)).s.cells) (.int .i64 (Wk (k + 1)).s.clock) (.int .i64 (Wk (k + 1)).s.handler) (.int .i64 (Wk (k + 1)).s.back) (.bool (Wk (k + 1)).s.pending) (.bool (Wk (k + 1)).s.halted) (.bool (Wk (k + 1)).known) (slF g cap l.length j' o'))
      go_wp2_with fail
      go_roundw
      case rel =>
        refine ⟨k + 1, hk2, j', o', t1, t2, t3, unhide X6, ?_, ?_, hbb, ?_⟩
        · repeat (refine Box.off ?_ (by simp; omega) _)
          exact unhide Y5
        · refine (unhide L5).keep (o := [w3.heap.size]) ?_ (by simp; omega)
          repeat (refine Keeps.setCell ?_ (by simp) _)
          exact Keeps.refl _ _
        · repeat (refine Below.setCell ?_ (by simp; omega) _)
          exact unhide B5
      case measure =>
        rw [leftAt_box (unhide X6) (k := .i64) (x := (Wk (k + 1)).n) rfl, leftAt_box (unhide X4) (k := .i64) (x := (Wk k).n) rfl, unhide HTI, unhide HTI2]
        omega
    · have hnn : t0 + (k : Int) = n := by omega
      rw [hnn] at HOPT
      have HRR := hide ((unhide HOPT).trans (unhide HSD))
      clear ht hnn
      cases hkn : (Wk k).known with
      | false =>
        have hso : SO = none := by
          rw [← unhide HRR]
          simp [Hist.Pt.opt, hkn]
        have hrr := unhide HR
        rw [hso] at hrr
        simp only [Prod.mk.injEq] at hrr
        obtain ⟨rfl, rfl⟩ := hrr
        obtain ⟨cy, fy, gy⟩ := unhide Y4
        clear gy hso
        have cz := (nine_boxR (unhide Y4) (.int .i64 0) (.int .i64 0) (.string ⟨#[]⟩) (.string ⟨#[]⟩) (.int .i64 0) (.int .i64 0) (.int .i64 0) (.bool false) (.bool false)).c
        go_wp2_with fail
        refine bodyPost_ret (v := .tuple #[.agg #[.int .i64 0, .int .i64 0, .string ⟨#[]⟩, .string ⟨#[]⟩, .int .i64 0, .int .i64 0, .int .i64 0, .bool false, .bool false], .int .i64 9]) (by simp [results, Tryz.results61, go_sem, cz]) rfl ⟨rfl, ?_⟩
        repeat (refine Below.setCell ?_ (by simp) _)
        exact unhide B4
      | true =>
        have hso : SO = some (Wk k).s := by
          rw [← unhide HRR]
          simp [Hist.Pt.opt, hkn]
        have hrr := unhide HR
        rw [hso] at hrr
        simp only [Prod.mk.injEq] at hrr
        obtain ⟨rfl, rfl⟩ := hrr
        obtain ⟨cy, fy, gy⟩ := unhide Y4
        clear gy hso
        have cz := (nine_boxR (unhide Y4) (.int .i64 (Wk k).s.n) (.int .i64 (Wk k).s.pc) (.string (Wk k).s.regs) (.string (Wk k).s.cells) (.int .i64 (Wk k).s.clock) (.int .i64 (Wk k).s.handler) (.int .i64 (Wk k).s.back) (.bool (Wk k).s.pending) (.bool (Wk k).s.halted)).c
        go_wp2_with fail
        refine bodyPost_ret (v := .tuple #[.agg #[.int .i64 (Wk k).s.n, .int .i64 (Wk k).s.pc, .string (Wk k).s.regs, .string (Wk k).s.cells, .int .i64 (Wk k).s.clock, .int .i64 (Wk k).s.handler, .int .i64 (Wk k).s.back, .bool (Wk k).s.pending, .bool (Wk k).s.halted], .int .i64 0]) (by simp [results, Tryz.results61, go_sem, cz]) rfl ⟨rfl, ?_⟩
        repeat (refine Below.setCell ?_ (by simp) _)
        exact unhide B4
end Go.Proofs.YtcmoffiigpchiaaGreat

namespace Go.Proofs.YtcmoffiigpchiaaGreat
open Go.RowKit

namespace Hist
theorem lastTo_le {l : List En} (h : IsRun l) : lastTo l ≤ 20000 := by
  unfold lastTo
  split
  · rename_i e he
    have hk := h.ok e (List.mem_of_getLast? he)
    have h1 := hk.n
    unfold En.to
    split <;> omega
  · omega
theorem atOf_chk {p : ByteArray} {l : List En} {n : Int} (h : (Code.chk p).1 ≠ 0) : atOf p l n = (Mach.zero, (Code.chk p).1) := by
  unfold atOf atErr
  simp [h]
theorem atOf_none {p : ByteArray} {l : List En} {n : Int} (h : (Code.chk p).1 = 0) (h0 : l = []) : atOf p l n = (Mach.zero, 6) := by
  unfold atOf atErr
  simp [h, h0]
theorem atOf_early {p : ByteArray} {l : List En} {n : Int} (h : (Code.chk p).1 = 0) (h0 : l ≠ []) (h1 : n < firstN l) : atOf p l n = (Mach.zero, 7) := by
  unfold atOf atErr
  simp [h, h0, h1]
theorem atOf_late {p : ByteArray} {l : List En} {n : Int} (h : (Code.chk p).1 = 0) (h0 : l ≠ []) (h1 : ¬ n < firstN l) (h2 : lastTo l < n) : atOf p l n = (Mach.zero, 8) := by
  unfold atOf atErr
  simp [h, h0, h1, h2]
theorem atOf_in {p : ByteArray} {l : List En} {n : Int} (h : (Code.chk p).1 = 0) (h0 : l ≠ []) (h1 : ¬ n < firstN l) (h2 : ¬ lastTo l < n) : atOf p l n = match stood p l n with | some s => (s, 0) | none => (Mach.zero, 9) := by
  unfold atOf atErr
  simp only [h, h0, h1, h2, ne_eq, not_true, if_false]
  cases stood p l n <;> rfl
end Hist

/-- At of a run, by the program. -/
theorem hat_code (p : ByteArray) (hp : p.size ≤ maxLen) (hg : (Code.chk p).1 = 0) (l : List Hist.En) (v : Value) (n : Int) (w0 w : World) (hR : Hist.IsRun l) (hl : l.length < 1000000) (hF : FRow w0 w v l) :
    Calls Tryz.prog 61 #[.string p, v, .int .i64 n] w fun e w' => e = .returned (.tuple #[(Hist.atOf p l n).1.val, .int .i64 (Hist.atOf p l n).2]) ∧ Below w.heap.size w w' := by
  by_cases h0 : l = []
  · rw [Hist.atOf_none hg h0]
    exact hat_out p l v n 6 w0 w hR hl hF (.inl ⟨by unfold Hist.spanErr; simp [h0], by decide⟩)
  · have hse : Hist.spanErr l = 0 := by unfold Hist.spanErr; simp [h0]
    by_cases h1 : n < Hist.firstN l
    · rw [Hist.atOf_early hg h0 h1]
      exact hat_out p l v n 7 w0 w hR hl hF (.inr (.inl ⟨hse, h1, rfl⟩))
    · by_cases h2 : Hist.lastTo l < n
      · rw [Hist.atOf_late hg h0 h1 h2]
        exact hat_out p l v n 8 w0 w hR hl hF (.inr (.inr ⟨hse, h1, h2, rfl⟩))
      · have hF' := hF
        obtain ⟨g, cap, rfl, ho, hb⟩ := hF'
        have hcap : l.length ≤ cap := by
          rcases ho.2 with ⟨hv, _⟩ | ⟨g2, c2, cur, hv, _, _, a1, _⟩
          · simp at hv
          · simp at hv
            omega
        exact hat_in p hp hg l g cap n w0 w hR hl hF hcap h0 (by omega) (by omega) (Hist.lastTo_le hR) _ _ (by rw [Hist.atOf_in hg h0 h1 h2] <;> (cases Hist.stood p l n <;> rfl))

set_option maxRecDepth 100000 in
set_option maxHeartbeats 4000000 in
theorem at_api (p t : ByteArray) (hp : p.size ≤ maxLen) (ht : t.size ≤ 1048576) (n : Int) (w : World) :
    Calls Tryz.prog 35 #[.string p, .string t, .int .i64 n] w fun e w' => e = .returned (.tuple #[(Hist.atOf p (Hist.run t) n).1.val, .int .i64 (Hist.atOf p (Hist.run t) n).2]) ∧ Below w.heap.size w w' := by
  have HC := hide (fun w => check_code p w hp)
  by_cases hg : (Code.chk p).1 = 0
  · have HR := hide (run_code t ht)
    have hn := Hist.run_length t
    have HA := fun w0 w v => hide (fun hF => hat_code p hp hg (Hist.run t) v n w0 w (Hist.run_isRun t) (by omega) hF)
    generalize Hist.atOf p (Hist.run t) n = A at *
    obtain ⟨⟨sn, pc, regs, cells, clock, handler, back, pending, halted⟩, er⟩ := A
    rw [hg] at HC
    generalize (Code.chk p).2 = c2 at *
    clear hg
    go_enter Tryz.func35, Tryz.ntmps35
    go_wp2_with fail
    refine (unhide HC _).mono ?_
    rintro e w1 ⟨rfl, hw⟩
    obtain rfl := hw.symm
    go_wp2_with fail
    refine (unhide HR _).mono ?_
    rintro e w2 ⟨v, rfl, hF⟩
    have HF := hide hF
    have B2 : Hid (Below (w.alloc (.cells #[.int .i64 0, .int .i64 0, .string ⟨#[]⟩, .string ⟨#[]⟩, .int .i64 0, .int .i64 0, .int .i64 0, .bool false, .bool false] 30)).heap.size (w.alloc (.cells #[.int .i64 0, .int .i64 0, .string ⟨#[]⟩, .string ⟨#[]⟩, .int .i64 0, .int .i64 0, .int .i64 0, .bool false, .bool false] 30)) w2) := hide hF.choose_spec.choose_spec.2.2
    clear hF
    go_wp2_with fail
    refine (unhide (HA _ _ _) (unhide HF)).mono ?_
    rintro e w3 ⟨rfl, hb⟩
    have Y3 := hide (((Box.new w #[.int .i64 0, .int .i64 0, .string ⟨#[]⟩, .string ⟨#[]⟩, .int .i64 0, .int .i64 0, .int .i64 0, .bool false, .bool false] 30).next (unhide B2)).next hb)
    have B3 := hide (bel_then (bel_alloc (unhide B2)) hb)
    clear hb
    obtain ⟨cy, fy, gy⟩ := unhide Y3
    clear gy
    have cz := (nine_boxR (unhide Y3) (.int .i64 sn) (.int .i64 pc) (.string regs) (.string cells) (.int .i64 clock) (.int .i64 handler) (.int .i64 back) (.bool pending) (.bool halted)).c
    go_wp2_with fail
    refine bodyPost_ret (v := .tuple #[.agg #[.int .i64 sn, .int .i64 pc, .string regs, .string cells, .int .i64 clock, .int .i64 handler, .int .i64 back, .bool pending, .bool halted], .int .i64 er]) (by simp [results, Tryz.results35, go_sem, cz]) rfl ⟨rfl, ?_⟩
    repeat (refine Below.setCell ?_ (by simp) _)
    exact unhide B3
  · rw [Hist.atOf_chk hg]
    have d : ((Code.chk p).1 != 0) = true := by simp [hg]
    generalize (Code.chk p).1 = c1 at *
    generalize (Code.chk p).2 = c2 at *
    clear hg
    go_enter Tryz.func35, Tryz.ntmps35
    go_wp2_with fail
    refine (unhide HC _).mono ?_
    rintro e w1 ⟨rfl, hw⟩
    obtain rfl := hw.symm
    go_wp2_with fail
    refine bodyPost_ret (v := .tuple #[.agg #[.int .i64 0, .int .i64 0, .string ⟨#[]⟩, .string ⟨#[]⟩, .int .i64 0, .int .i64 0, .int .i64 0, .bool false, .bool false], .int .i64 c1]) (by simp [results, Tryz.results35, go_sem]) rfl ⟨rfl, ?_⟩
    exact (Below.refl _ _).alloc (Nat.le_refl _) _
end Go.Proofs.YtcmoffiigpchiaaGreat
