import Derived.Test.YtcmoffiigpchiaaPaC
import Derived.Test.YtcmoffiigpchiaaStepW
import Derived.Test.YtcmoffiigpchiaaPutL
namespace Go.Proofs.Ytcmoffiigpchiaa
open Go.RowKit

theorem taken_on {l : List Hist.En} {j : Nat} {n : Int} {e : Hist.En} (hx : l[j]? = some e) (h : comesB l j n false = true) : Hist.taken n (l.drop j) = (e.c, l.drop (j + 1)) := by
  have hj := (List.getElem?_eq_some_iff.1 hx).1
  have hd : l.drop j = e :: l.drop (j + 1) := by
    rw [List.drop_eq_getElem_cons hj]
    congr 1
    rw [List.getElem?_eq_getElem hj] at hx
    exact Option.some.inj hx
  unfold comesB at h
  rw [hx] at h
  simp at h
  rw [hd]
  simp [Hist.taken, h.1, h.2]
theorem taken_off {l : List Hist.En} {j : Nat} {n : Int} (h : comesB l j n false = false) : Hist.taken n (l.drop j) = (Hist.noCh, l.drop j) := by
  unfold comesB at h
  cases hx : l[j]? with
  | none =>
    have hjl : l.length ≤ j := by
      rcases Nat.lt_or_ge j l.length with h' | h'
      · rw [List.getElem?_eq_getElem h'] at hx; cases hx
      · exact h'
    rw [List.drop_eq_nil_of_le hjl]
    rfl
  | some e =>
    have hj := (List.getElem?_eq_some_iff.1 hx).1
    have hd : l.drop j = e :: l.drop (j + 1) := by
      rw [List.drop_eq_getElem_cons hj]
      congr 1
      rw [List.getElem?_eq_getElem hj] at hx
      exact Option.some.inj hx
    rw [hx] at h
    simp at h
    rw [hd]
    have : ¬ (e.st = false ∧ (e.n : Int) = n) := fun hh => h hh.1 hh.2
    simp [Hist.taken, this]
/-- What is left of the run behind the choice, as it lies. -/
def NextA (w wx : World) (l : List Hist.En) (g cap j : Nat) (n : Int) (s : StV) (k : Bool) (c : ChV) : Prop :=
  ∃ j1 o1, j1 ≤ l.length ∧ (j1 < l.length → o1 = j1 * 15) ∧ (Hist.taken n (l.drop j)).2 = l.drop j1 ∧ Box wx w.heap.size (pcells n s k (slF g cap l.length j1 o1)) ∧ Box wx (w.heap.size + 1) #[.int .i64 0, .int .i64 0, .int .i64 0, .string ⟨#[]⟩, .string ⟨#[]⟩, .int .i64 0, .int .i64 0, .int .i64 0, .bool false, .bool false, .bool false, .slice none 0 0] ∧ Box wx (w.heap.size + 1 + 1) #[.int .i64 c.input, .int .i64 c.ticks, .bool c.interrupt] ∧ LiesF wx g l ∧ Below w.heap.size w wx
theorem third_new (w : World) (X Y : Obj) (C : Array Value) (t : TypeId) : Box (((w.alloc X).alloc Y).alloc (.cells C t)) (w.heap.size + 1 + 1) C := by
  have h := Box.new ((w.alloc X).alloc Y) C t
  rw [show ((w.alloc X).alloc Y).heap.size = w.heap.size + 1 + 1 by simp] at h
  exact h
theorem sec_box (w : World) (X : Obj) (C : Array Value) (t : TypeId) : Box ((w.alloc X).alloc (.cells C t)) (w.heap.size + 1) C := by
  have h := Box.new (w.alloc X) C t
  rw [show (w.alloc X).heap.size = w.heap.size + 1 by simp] at h
  exact h

set_option maxRecDepth 100000 in
set_option maxHeartbeats 4000000 in
theorem next_code (p : ByteArray) (hp : p.size ≤ maxLen) (l : List Hist.En) (g cap j o : Nat) (ho : j < l.length → o = j * 15) (hj : j ≤ l.length) (hc : l.length ≤ cap) (hl : l.length < 1000000) (n : Int) (hn0 : 0 ≤ n) (hn1 : n ≤ 1000000) (s : StV) (k : Bool) (w : World) (hL : LiesF w g l) :
    Calls Try.prog 50 #[pval n s k (slF g cap l.length j o), .string p] w fun r w' => ∃ v, r = .returned v ∧ Told l g cap (Hist.nextP p ⟨n, s, k, l.drop j⟩) v ∧ Below w.heap.size w w' := by
  have HC := fun w1 => hide (fun (h : LiesF w1 g l) => comes_code l g cap j o ho hj hl n s k false w1 h)
  obtain ⟨c, hc'⟩ : ∃ c, c = (Hist.taken n (l.drop j)).1 := ⟨_, rfl⟩
  have HS := hide (step_code p s c hp)
  obtain ⟨y, hy⟩ : ∃ y : StV × Int, y = if k = true then Mach.step p s c else (s, 1) := ⟨_, rfl⟩
  have HT := fun w1 j1 o1 => hide (fun (h1 : j1 < l.length → o1 = j1 * 15) (h2 : j1 ≤ l.length) (h : LiesF w1 g l) => told_code l g cap j1 o1 h1 h2 hc hl (n + 1) y.1 (decide (y.2 = 0)) w1 h)
  have HX : Hid (∀ j1, (Hist.taken n (l.drop j)).2 = l.drop j1 → Hist.nextP p ⟨n, s, k, l.drop j⟩ = Hist.told (n + 1) y.1 (decide (y.2 = 0)) (l.drop j1)) := hide (fun j1 h => by
    unfold Hist.nextP
    simp only
    rw [← hc', ← hy, h])
  generalize Hist.nextP p ⟨n, s, k, l.drop j⟩ = GX at *
  have HCC := hide hc'
  have HY := hide hy
  have HL := hide hL
  have hg := hL.lt
  clear hc' hy hL
  obtain ⟨sn, pc, regs, cells, clock, handler, back, pending, halted⟩ := s
  obtain ⟨ci, ct, cb⟩ := c
  go_enter Try.func50, Try.ntmps50
  go_upto_region 2 with fail
  have X0 := hide (((Box.new w #[.int .i64 n, .int .i64 sn, .int .i64 pc, .string regs, .string cells, .int .i64 clock, .int .i64 handler, .int .i64 back, .bool pending, .bool halted, .bool k, slF g cap l.length j o] 88).alloc (.cells #[.int .i64 0, .int .i64 0, .int .i64 0, .string ⟨#[]⟩, .string ⟨#[]⟩, .int .i64 0, .int .i64 0, .int .i64 0, .bool false, .bool false, .bool false, .slice none 0 0] 88)).alloc (.cells #[.int .i64 0, .int .i64 0, .bool false] 56))
  have Y0 := hide ((sec_box w (.cells #[.int .i64 n, .int .i64 sn, .int .i64 pc, .string regs, .string cells, .int .i64 clock, .int .i64 handler, .int .i64 back, .bool pending, .bool halted, .bool k, slF g cap l.length j o] 88) #[.int .i64 0, .int .i64 0, .int .i64 0, .string ⟨#[]⟩, .string ⟨#[]⟩, .int .i64 0, .int .i64 0, .int .i64 0, .bool false, .bool false, .bool false, .slice none 0 0] 88).alloc (.cells #[.int .i64 0, .int .i64 0, .bool false] 56))
  have Z0 := hide (third_new w (.cells #[.int .i64 n, .int .i64 sn, .int .i64 pc, .string regs, .string cells, .int .i64 clock, .int .i64 handler, .int .i64 back, .bool pending, .bool halted, .bool k, slF g cap l.length j o] 88) (.cells #[.int .i64 0, .int .i64 0, .int .i64 0, .string ⟨#[]⟩, .string ⟨#[]⟩, .int .i64 0, .int .i64 0, .int .i64 0, .bool false, .bool false, .bool false, .slice none 0 0] 88) #[.int .i64 0, .int .i64 0, .bool false] 56)
  have B0 := hide ((((Below.refl w.heap.size w).alloc (Nat.le_refl _) (.cells #[.int .i64 n, .int .i64 sn, .int .i64 pc, .string regs, .string cells, .int .i64 clock, .int .i64 handler, .int .i64 back, .bool pending, .bool halted, .bool k, slF g cap l.length j o] 88)).alloc (by simp) (.cells #[.int .i64 0, .int .i64 0, .int .i64 0, .string ⟨#[]⟩, .string ⟨#[]⟩, .int .i64 0, .int .i64 0, .int .i64 0, .bool false, .bool false, .bool false, .slice none 0 0] 88)).alloc (by simp; omega) (.cells #[.int .i64 0, .int .i64 0, .bool false] 56))
  have L0 := hide ((unhide HL).next (unhide B0))
  generalize ((w.alloc (.cells #[.int .i64 n, .int .i64 sn, .int .i64 pc, .string regs, .string cells, .int .i64 clock, .int .i64 handler, .int .i64 back, .bool pending, .bool halted, .bool k, slF g cap l.length j o] 88)).alloc (.cells #[.int .i64 0, .int .i64 0, .int .i64 0, .string ⟨#[]⟩, .string ⟨#[]⟩, .int .i64 0, .int .i64 0, .int .i64 0, .bool false, .bool false, .bool false, .slice none 0 0] 88)).alloc (.cells #[.int .i64 0, .int .i64 0, .bool false] 56) = wy at *
  obtain ⟨cx, fx, gx⟩ := unhide X0
  clear gx
  simp only [pval, pcells] at HC
  go_upto_if 10 with (go_at_call 73; refine (unhide (HC _) (unhide L0)).mono ?_; rintro e0 w1 ⟨rfl, hb⟩; have X1 := hide ((unhide X0).next hb); have Y1 := hide ((unhide Y0).next hb); have Z1 := hide ((unhide Z0).next hb); have L1 := hide ((unhide L0).next hb); have B1 := hide ((unhide B0).trans (hb.mono (unhide B0).size)); clear hb cx fx)
  go_cut [] (fun wx => NextA w wx l g cap j n ⟨sn, pc, regs, cells, clock, handler, back, pending, halted⟩ k ⟨ci, ct, cb⟩)
  case first =>
    cases hco : comesB l j n false with
    | false =>
      have htk := taken_off hco
      have hcz : (⟨ci, ct, cb⟩ : ChV) = Hist.noCh := by rw [unhide HCC, htk]
      have HTK := hide htk
      cases hcz
      clear htk hco
      go_wp2_with fail
      go_meet
      case rel => exact ⟨j, o, hj, ho, by rw [unhide HTK], unhide X1, unhide Y1, unhide Z1, unhide L1, unhide B1⟩
    | true =>
      obtain ⟨e, he⟩ := comes_at hco
      have htk := taken_on he hco
      have hcz : (⟨ci, ct, cb⟩ : ChV) = e.c := by rw [unhide HCC, htk]
      have HTK := hide htk
      have hjl : j < l.length := (List.getElem?_eq_some_iff.1 he).1
      obtain rfl := ho hjl
      obtain ⟨m, hm⟩ : ∃ m, l.length - j = m + 1 := ⟨l.length - j - 1, by omega⟩
      obtain ⟨c, hcc⟩ : ∃ c, cap - j = c + 1 := ⟨cap - j - 1, by omega⟩
      have hr := (unhide L1).at_ j e he
      obtain ⟨est, ek, en, es, ⟨ei, et, eb⟩⟩ := e
      cases hcz
      have r12 := hr 12 _ rfl
      have r13 := hr 13 _ rfl
      have r14 := hr 14 _ rfl
      simp only at r12 r13 r14
      simp only [slF, hm, hcc] at X1
      have hj1 : j + 1 ≤ l.length := by omega
      have HE1 : Hid (l.length - (j + 1) = m) := hide (by omega)
      have HE2 : Hid (cap - (j + 1) = c) := hide (by omega)
      have HO1 : Hid (j + 1 < l.length → c ≠ 0) := hide (by intro h; omega)
      have i1 : (1 : Int) ≤ ((m + 1 : Nat) : Int) := by omega
      have i2 : (1 : Int) ≤ (m : Int) + 1 := by omega
      obtain ⟨cx, fx, gx⟩ := unhide X1
      obtain ⟨cz, fz, gz⟩ := unhide Z1
      clear hm hcc hco htk hr gx gz hj ho hjl he
      cases c with
      | zero =>
        go_wp2_with fail
        go_meet
        case rel =>
          refine ⟨j + 1, j * 15, hj1, (fun h => absurd rfl (unhide HO1 h)), by rw [unhide HTK], ?_, ?_, ?_, ?_, ?_⟩
          · simp only [pcells, slF]
            rw [unhide HE1, unhide HE2]
            have h := (Box.off (Box.off (Box.off (unhide X1) (a := ⟨w.heap.size + 1 + 1, 0, none⟩) (by simp; omega) (.int .i64 ci)) (a := ⟨w.heap.size + 1 + 1, 1, none⟩) (by simp; omega) (.int .i64 ct)) (a := ⟨w.heap.size + 1 + 1, 2, none⟩) (by simp; omega) (.bool cb)).set 11 (.slice (some ⟨g, j * 15, none⟩) m 0) (by simp)
            simpa using h
          · repeat (refine Box.off ?_ (by simp) _)
            exact unhide Y1
          · exact Box.off ((unhide Z1).put3 _ _ _) (by simp; omega) _
          · refine (unhide L1).keep (o := [w.heap.size, w.heap.size + 1 + 1]) ?_ (by simp; omega)
            repeat (refine Keeps.setCell ?_ (by simp) _)
            exact Keeps.refl _ _
          · repeat (refine Below.setCell ?_ (by simp <;> omega) _)
            exact unhide B1
      | succ c =>
        have i3 : ¬ c + 1 + 1 = 1 := by omega
        go_wp2_with fail
        go_meet
        case rel =>
          refine ⟨j + 1, j * 15 + 15, hj1, (fun _ => by omega), by rw [unhide HTK], ?_, ?_, ?_, ?_, ?_⟩
          · simp only [pcells, slF]
            rw [unhide HE1, unhide HE2]
            have h := (Box.off (Box.off (Box.off (unhide X1) (a := ⟨w.heap.size + 1 + 1, 0, none⟩) (by simp; omega) (.int .i64 ci)) (a := ⟨w.heap.size + 1 + 1, 1, none⟩) (by simp; omega) (.int .i64 ct)) (a := ⟨w.heap.size + 1 + 1, 2, none⟩) (by simp; omega) (.bool cb)).set 11 (.slice (some ⟨g, j * 15 + 15, none⟩) m (c + 1)) (by simp)
            simpa using h
          · repeat (refine Box.off ?_ (by simp) _)
            exact unhide Y1
          · exact Box.off ((unhide Z1).put3 _ _ _) (by simp; omega) _
          · refine (unhide L1).keep (o := [w.heap.size, w.heap.size + 1 + 1]) ?_ (by simp; omega)
            repeat (refine Keeps.setCell ?_ (by simp) _)
            exact Keeps.refl _ _
          · repeat (refine Below.setCell ?_ (by simp <;> omega) _)
            exact unhide B1
  case rest =>
    obtain ⟨j1, o1, hj1, ho1, htk, x1, y1, z1, l1, b1⟩ := hcut
    have X2 := hide x1
    have Y2 := hide y1
    have Z2 := hide z1
    have L2 := hide l1
    have B2 := hide b1
    have HGX := hide (unhide HX j1 htk)
    have HTT := hide (fun w1 h => unhide (HT w1 j1 o1) ho1 hj1 h)
    clear x1 y1 z1 l1 b1 htk HX HT X1 Y1 Z1 L1 B1 X0 Y0 Z0 L0 B0 hj ho hc hl HC HCC
    simp only [pcells] at X2
    obtain ⟨⟨sn', pc', regs', cells', clock', handler', back', pending', halted'⟩, er⟩ := y
    obtain ⟨cx, fx, gx⟩ := unhide X2
    obtain ⟨cz, fz, gz⟩ := unhide Z2
    clear gx gz
    go_upto_if 21 with fail
    go_cut [] (fun wx => Box wx w.heap.size #[.int .i64 n, .int .i64 sn', .int .i64 pc', .string regs', .string cells', .int .i64 clock', .int .i64 handler', .int .i64 back', .bool pending', .bool halted', .bool (decide (er = 0)), slF g cap l.length j1 o1] ∧ Box wx (w.heap.size + 1) #[.int .i64 0, .int .i64 0, .int .i64 0, .string ⟨#[]⟩, .string ⟨#[]⟩, .int .i64 0, .int .i64 0, .int .i64 0, .bool false, .bool false, .bool false, .slice none 0 0] ∧ LiesF wx g l ∧ Below w.heap.size w wx)
    case first =>
      cases k with
      | false =>
        have hyy := unhide HY
        simp only [Bool.false_eq_true, if_false, Prod.mk.injEq, StV.mk.injEq] at hyy
        obtain ⟨⟨q1, q2, q3, q4, q5, q6, q7, q8, q9⟩, q10⟩ := hyy
        subst q1 q2 q3 q4 q5 q6 q7 q8 q9 q10
        go_wp2_with fail
        go_meet
        case rel => exact ⟨unhide X2, unhide Y2, unhide L2, unhide B2⟩
      | true =>
        have hyy := unhide HY
        simp only [if_true] at hyy
        rw [← hyy] at HS
        simp only at HS
        clear hyy
        go_wp2_with fail
        refine (unhide HS _).mono ?_
        rintro e0 w3 ⟨rfl, hb⟩
        have X3 := hide ((unhide X2).next hb)
        have Y3 := hide ((unhide Y2).next hb)
        have L3 := hide ((unhide L2).next hb)
        have B3 := hide ((unhide B2).trans (hb.mono (unhide B2).size))
        have hlt3 := (unhide X3).lt
        clear hb cx fx cz fz
        go_upto_region 7 with fail
        have X4 := hide ((unhide X3).alloc (.cells #[.int .i64 sn', .int .i64 pc', .string regs', .string cells', .int .i64 clock', .int .i64 handler', .int .i64 back', .bool pending', .bool halted'] 42))
        have Y4 := hide ((unhide Y3).alloc (.cells #[.int .i64 sn', .int .i64 pc', .string regs', .string cells', .int .i64 clock', .int .i64 handler', .int .i64 back', .bool pending', .bool halted'] 42))
        have V4 := hide (Box.new w3 #[.int .i64 sn', .int .i64 pc', .string regs', .string cells', .int .i64 clock', .int .i64 handler', .int .i64 back', .bool pending', .bool halted'] 42)
        have L4 := hide ((unhide L3).next ((Below.refl w3.heap.size w3).alloc (Nat.le_refl _) (.cells #[.int .i64 sn', .int .i64 pc', .string regs', .string cells', .int .i64 clock', .int .i64 handler', .int .i64 back', .bool pending', .bool halted'] 42)))
        have B4 := hide ((unhide B3).alloc (unhide B3).size (.cells #[.int .i64 sn', .int .i64 pc', .string regs', .string cells', .int .i64 clock', .int .i64 handler', .int .i64 back', .bool pending', .bool halted'] 42))
        have hnw : ¬ w3.heap.size = w.heap.size := by omega
        have hnw2 : ¬ w.heap.size = w3.heap.size := by omega
        generalize w3.alloc (.cells #[.int .i64 sn', .int .i64 pc', .string regs', .string cells', .int .i64 clock', .int .i64 handler', .int .i64 back', .bool pending', .bool halted'] 42) = w4 at *
        obtain ⟨cx, fx, gx⟩ := unhide X4
        obtain ⟨cv, fv', gv⟩ := unhide V4
        clear gx gv
        go_wp2_with fail
        go_meet
        case rel =>
          refine ⟨?_, ?_, ?_, ?_⟩
          · have h := ((unhide X4).putN (.int .i64 sn') (.int .i64 pc') (.string regs') (.string cells') (.int .i64 clock') (.int .i64 handler') (.int .i64 back') (.bool pending') (.bool halted')).set 10 (.bool (er == 0)) (by simp)
            have e : (er == 0) = decide (er = 0) := rfl
            rw [e] at h ⊢
            simpa using h
          · repeat (refine Box.off ?_ (by simp) _)
            exact unhide Y4
          · refine (unhide L4).keep (o := [w.heap.size]) ?_ (by simp; omega)
            repeat (refine Keeps.setCell ?_ (by simp) _)
            exact Keeps.refl _ _
          · repeat (refine Below.setCell ?_ (by simp) _)
            exact unhide B4
    case rest =>
      obtain ⟨x1, y1, l1, b1⟩ := hcut
      have X5 := hide x1
      have Y5 := hide y1
      have L5 := hide l1
      have B5 := hide b1
      clear x1 y1 l1 b1 cx fx cz fz X2 Y2 Z2 L2 B2
      obtain ⟨cx, fx, gx⟩ := unhide X5
      clear gx
      go_upto_region 10 with fail
      have X6 := hide ((unhide X5).set 0 (.int .i64 (n + 1)) (by simp))
      rw [show (#[.int .i64 n, .int .i64 sn', .int .i64 pc', .string regs', .string cells', .int .i64 clock', .int .i64 handler', .int .i64 back', .bool pending', .bool halted', .bool (decide (er = 0)), slF g cap l.length j1 o1] : Array Value).setIfInBounds 0 (.int .i64 (n + 1)) = #[.int .i64 (n + 1), .int .i64 sn', .int .i64 pc', .string regs', .string cells', .int .i64 clock', .int .i64 handler', .int .i64 back', .bool pending', .bool halted', .bool (decide (er = 0)), slF g cap l.length j1 o1] by simp] at X6
      have Y6 := hide (Box.off (unhide Y5) (a := ⟨w.heap.size, 0, none⟩) (by simp) (.int .i64 (n + 1)))
      have B6 := hide ((unhide B5).setCell (p := ⟨w.heap.size, 0, none⟩) (by simp) (.int .i64 (n + 1)))
      have L6 := hide ((unhide L5).keep (o := [w.heap.size]) ((Keeps.refl wc [w.heap.size]).setCell (a := ⟨w.heap.size, 0, none⟩) (by simp) (.int .i64 (n + 1))) (by simp; omega))
      generalize wc.setCell ⟨w.heap.size, 0, none⟩ (.int .i64 (n + 1)) = wd at *
      clear cx fx
      obtain ⟨cx, fx, gx⟩ := unhide X6
      clear gx
      simp only [pval, pcells] at HTT
      go_wp2_with fail
      refine (unhide HTT _ (unhide L6)).mono ?_
      rintro r w7 ⟨v, rfl, ht, hb⟩
      rw [← unhide HGX] at ht
      obtain ⟨xn, ⟨xsn, xpc, xregs, xcells, xclock, xhandler, xback, xpending, xhalted⟩, xk, xl⟩ := GX
      obtain ⟨j', o', t1, t2, t3, rfl⟩ := ht
      have Y7 := hide ((unhide Y6).next hb)
      have B7 := hide ((unhide B6).trans (hb.mono (unhide B6).size))
      clear hb cx fx
      obtain ⟨cy, fy, gy⟩ := unhide Y7
      clear gy
      have HR := hide (⟨j', o', t1, t2, t3, rfl⟩ : Told l g cap ⟨xn, ⟨xsn, xpc, xregs, xcells, xclock, xhandler, xback, xpending, xhalted⟩, xk, xl⟩ (pval xn ⟨xsn, xpc, xregs, xcells, xclock, xhandler, xback, xpending, xhalted⟩ xk (slF g cap l.length j' o')))
      clear t1 t2 t3
      have cz := ((unhide Y7).putQ (.int .i64 xn) (.int .i64 xsn) (.int .i64 xpc) (.string xregs) (.string xcells) (.int .i64 xclock) (.int .i64 xhandler) (.int .i64 xback) (.bool xpending) (.bool xhalted) (.bool xk) (slF g cap l.length j' o')).c
      go_wp2_with fail
      refine bodyPost_ret (v := pval xn ⟨xsn, xpc, xregs, xcells, xclock, xhandler, xback, xpending, xhalted⟩ xk (slF g cap l.length j' o')) (by simp [results, Try.results50, go_sem, cz]) rfl ⟨_, rfl, unhide HR, ?_⟩
      repeat (refine Below.setCell ?_ (by simp) _)
      exact unhide B7
end Go.Proofs.Ytcmoffiigpchiaa
