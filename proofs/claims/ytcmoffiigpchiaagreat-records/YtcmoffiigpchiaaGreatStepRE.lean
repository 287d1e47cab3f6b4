import Derived.Test.YtcmoffiigpchiaaGreatStepRH
namespace Go.Proofs.YtcmoffiigpchiaaGreat
open Go.RowKit

set_option maxRecDepth 100000 in
set_option maxHeartbeats 60000000 in
theorem mstep_none (b g cap : Nat) (m : RM) (c : ChV) (him : RM.Inv m) (hc : Mach.Chosen c) (hh : m.s.halted = false) (hn : m.s.n < 10000) (hct : RM.counts m.p m.s c = true) (hpn : (RM.place m).2 = true) (hsz : m.all.length < 8796093022200) (w : World) (h : RefAt w b g cap m) :
    Calls Tryz.prog 40 #[.pointer (some ⟨b, 0, none⟩), c.val] w fun e w' => e = .returned (.int .i64 0) ∧ ∃ g' cap', RefAt w' b g' cap' (RM.stepped m c) ∧ (g' = g ∨ w.heap.size ≤ g') ∧ Keeps w w' [b, g] := by
  obtain ⟨i0, hi, hz0, hz1, hz2⟩ := info_parts infoStr
  have HC := hide (chosen_ref c)
  rw [(Mach.chosen_iff c).2 hc] at HC
  have HX := hide (next_ref m.p him.ok.good m.s c him.ok.legal hc hn hh)
  have R0 := hide h
  have hgl := own_lt h.own
  obtain ⟨wi, ws, wp, wpe, wlen⟩ := RM.went_inv him hc hn (by omega)
  obtain ⟨ni, ns, np, npe, nro, nlen⟩ := RM.note_inv him c (by omega)
  have HV := hide (fun g1 cap1 W => save_ref b g1 cap1 (RM.went m c) wi.ok (by omega) W)
  have hwent : RM.went m c = { RM.note m c with s := Mach.next m.p m.s c } := by
    unfold RM.went
    simp only [hct, if_true]
  have hnote : RM.note m c = ⟨m.p, m.room, m.period, m.s, (RM.note m c).all, (RM.note m c).from_, (RM.note m c).last⟩ := by
    rw [← ns, ← np, ← npe, ← nro]
  have HST : Hid (RM.stepped m c = if m.period ≤ (Mach.next m.p m.s c).n - (RM.note m c).last then RM.save (RM.went m c) else RM.went m c) := hide (by
    unfold RM.stepped
    rw [ws]
    have : (RM.went m c).last = (RM.note m c).last := by rw [hwent]
    rw [this])
  have HA := hide (counts_facts him.ok.good hct)
  have hnn := Mach.next_n m.p m.s c
  have HP := hide (fun W hW => place_ref b g cap m him.ok W hW)
  have pall := RM.place_all m
  have pst := RM.place_s m
  have pro := RM.place_room' m
  have ppp := RM.place_pp m
  have plast := RM.place_last' m
  have HQ : Hid ((RM.place m).1 = ⟨m.p, m.room, m.period, m.s, m.all, (RM.place m).1.from_, m.last⟩) := hide (by
    rw [← pst, ← pro, ← ppp.1, ← ppp.2, ← pall, ← plast])
  rw [hpn] at HP
  have HOS := hide (ofState_ref m.all.length (by omega) m.s him.ok.legal)
  have HOC := hide (ofChoice_ref (m.all.length + 1) (by omega) m.s.n him.ok.legal.n0 him.ok.legal.n1 c hc)
  have HNT : Hid (RM.note m c = ⟨m.p, m.room, m.period, m.s, (m.all ++ [Frame.ofState m.all.length m.s]) ++ [Frame.ofChoice (m.all.length + 1) m.s.n.toNat c], (RM.place m).1.from_, m.s.n⟩) := hide (by
    unfold RM.note
    simp only [hpn, if_true]
    rw [unhide HQ]
    simp only [RM.put, List.length_append, List.length_singleton])
  have hnl : (RM.note m c).last = m.s.n := by rw [unhide HNT]
  rw [hwent] at HV HST
  rw [hnl] at HST
  rw [unhide HNT] at HV HST
  rw [unhide HQ] at HP
  have hn0 := him.ok.legal.n0
  have hl0 := him.ok.last0
  have hl1 := him.ok.last1
  have hp0 := him.ok.period0
  have hp1 := him.ok.period1
  have B0 := hide h.box
  have hlt := h.box.lt
  have hne := h.ne
  clear h pall pst pro ppp plast HQ HNT hnl hnote hwent wi ws wp wpe wlen ni ns np npe nro nlen hpn
  generalize RM.stepped m c = GS at *
  generalize Mach.next m.p m.s c = s' at *
  generalize insOf m.p m.s c = ii at *
  generalize (RM.place m).1.from_ = pf at *
  have hw : Hid (wrap64 (m.s.n + 1 - m.s.n) = m.s.n + 1 - m.s.n) := (by show _ = _; unfold wrap64; omega)
  have HN := hide hn
  clear hn him hct hc
  obtain ⟨p, room, period, ⟨n, pc, regs, cells, clock, handler, back, pending, halted⟩, all, from_, last⟩ := m
  obtain ⟨input, ticks, interrupt⟩ := c
  obtain ⟨n', pc', regs', cells', clock', handler', back', pending', halted'⟩ := s'
  simp only at HX hh hnn hsz hn0 hl0 hl1 hp0 hp1 HP HOC HV HST HA hw
  simp only at HOS
  generalize Frame.ofState all.length ⟨n, pc, regs, cells, clock, handler, back, pending, halted⟩ = fs at *
  generalize Frame.ofChoice (all.length + 1) n.toNat ⟨input, ticks, interrupt⟩ = fc at *
  subst hh hnn
  go_enter Tryz.func40, Tryz.ntmps40
  go_upto_region 5 with (go_at_call 50; refine (unhide HC _).mono ?_; rintro e w1 ⟨rfl, hb⟩; have B1 := hide (((unhide B0).alloc _).next hb); have C1 := hide ((Box.new _ _ _).next hb); have L1 := hide (bel_alloc hb); clear hb; obtain ⟨c1, f1, z1⟩ := unhide B1; obtain ⟨d1, e1, y1⟩ := unhide C1; have nb1 : ¬ w1.heap.size + 1 = b := (by omega); have nb2 : ¬ b = w1.heap.size + 1 := (by omega); have nw1 : ¬ w1.heap.size + 1 = w.heap.size := (by omega); have nw2 : ¬ w.heap.size = w1.heap.size + 1 := (by omega))
  have hk1 : w.heap.size < w1.heap.size := by omega
  go_cut [5, 7, 8] (fun x5 x7 x8 wx => x5 = .bool true ∧ x8 = .string ii ∧ ∃ k, x7 = .pointer (some ⟨k, 0, none⟩) ∧ w1.heap.size < k ∧ Box wx k #[.int .i64 (n + 1), .int .i64 pc', .string regs', .string cells', .int .i64 clock', .int .i64 handler', .int .i64 back', .bool pending', .bool halted'] ∧ Box wx w1.heap.size #[.int .i64 n, .int .i64 pc, .string regs, .string cells, .int .i64 clock, .int .i64 handler, .int .i64 back, .bool pending, .bool false] ∧ Box wx w.heap.size #[.int .i64 input, .int .i64 ticks, .bool interrupt] ∧ RefAt wx b g cap ⟨p, room, period, ⟨n, pc, regs, cells, clock, handler, back, pending, false⟩, all, from_, last⟩ ∧ Below w.heap.size w wx)
  case first =>
    go_region_held3 (fun w' => w'.cell? ⟨b, 0, none⟩ = some (.string p) ∧ w'.cell? ⟨b, 3, none⟩ = some (.int .i64 n) ∧ w'.cell? ⟨b, 4, none⟩ = some (.int .i64 pc) ∧ w'.cell? ⟨b, 5, none⟩ = some (.string regs) ∧ w'.cell? ⟨b, 6, none⟩ = some (.string cells) ∧ w'.cell? ⟨b, 7, none⟩ = some (.int .i64 clock) ∧ w'.cell? ⟨b, 8, none⟩ = some (.int .i64 handler) ∧ w'.cell? ⟨b, 9, none⟩ = some (.int .i64 back) ∧ w'.cell? ⟨b, 10, none⟩ = some (.bool pending) ∧ w'.cell? ⟨b, 11, none⟩ = some (.bool false) ∧ w'.cell? ⟨w.heap.size, 0, none⟩ = some (.int .i64 input) ∧ w'.cell? ⟨w.heap.size, 1, none⟩ = some (.int .i64 ticks) ∧ w'.cell? ⟨w.heap.size, 2, none⟩ = some (.bool interrupt)) (first | go_keep | (go_simp; done)) (first | (go_at_call 51; refine (unhide HX _).mono ?_; rintro e w2 ⟨rfl, hb⟩; (first | (have L2 : Hid (Below w1.heap.size w1 w2) := bel_alloc (bel_undrew hb); have W2 := hide ((Box.new w1 _ _).drew.next hb)) | (have L2 : Hid (Below w1.heap.size w1 w2) := bel_alloc (bel_alloc (bel_undrew hb)); have W2 := hide (((Box.new w1 _ _).alloc _).drew.next hb); have S2 := hide (box_second hb); obtain ⟨c5, f5, z5⟩ := unhide S2)); clear hb; have B2 := hide ((unhide B1).next (unhide L2)); have C2 := hide ((unhide C1).next (unhide L2)); obtain ⟨c2, f2, z2⟩ := unhide B2; obtain ⟨d2, e2, y2⟩ := unhide C2))
    all_goals
      go_wp2_with fail
      go_meet
      case rel =>
        have s2 := (unhide L2).size
        have s1 := (unhide L1).size
        first | exact ⟨rfl, rfl, w1.heap.size + 1, rfl, by omega, nine_box' (unhide S2) _ _ _ _ _ _ _ _ _, (unhide W2).keeps (keeps9 _ _ _ _ _ _ _ _ _ _ _) (by simp), (unhide C2).keeps (keeps9 _ _ _ _ _ _ _ _ _ _ _) (by simp; omega), (((unhide R0).keeps (unhide L1)).keeps (unhide L2)).keepsK (keeps9 _ _ _ _ _ _ _ _ _ _ _) (by simp; omega) (by simp; omega), below9 (bel_then (unhide L1) (unhide L2)) (by omega) _ _ _ _ _ _ _ _ _⟩ | exact ⟨rfl, rfl, w2.heap.size, rfl, by have := (unhide W2).lt; omega, Box.new w2 _ _, (unhide W2).alloc _, (unhide C2).alloc _, (((unhide R0).keeps (unhide L1)).keeps (unhide L2)).alloc _, (bel_then (unhide L1) (unhide L2)).alloc (Nat.le_trans s1 s2) _⟩
  case rest =>
    obtain ⟨rfl, rfl, k, rfl, hkk, x1, y1', v1, r1, l1⟩ := hcut
    have X1 := hide x1
    have Y1 := hide y1'
    have Z1 := hide v1
    have R1 := hide r1
    have K1 := hide (keeps_of l1 [b, g])
    clear x1 y1' v1 r1 l1 c1 f1 z1 d1 e1 y1 nb1 nb2 nw1 nw2
    obtain ⟨cc, fc', gc⟩ := unhide Z1
    go_upto_region 8 with fail
    obtain ⟨aq, HAQ⟩ : ∃ aq : Bool, Hid (AskOf ii aq ∧ (interrupt || decide (ticks ≠ 0) || (aq && decide (input ≠ 0))) = true) := unhide HA
    go_cut [9] (fun x wx => x = .bool aq ∧ Box wx k #[.int .i64 (n + 1), .int .i64 pc', .string regs', .string cells', .int .i64 clock', .int .i64 handler', .int .i64 back', .bool pending', .bool halted'] ∧ Box wx w1.heap.size #[.int .i64 n, .int .i64 pc, .string regs, .string cells, .int .i64 clock, .int .i64 handler, .int .i64 back, .bool pending, .bool false] ∧ Box wx w.heap.size #[.int .i64 input, .int .i64 ticks, .bool interrupt] ∧ RefAt wx b g cap ⟨p, room, period, ⟨n, pc, regs, cells, clock, handler, back, pending, false⟩, all, from_, last⟩ ∧ Keeps w wx [b, g])
    case first =>
      rcases (unhide HAQ).1 with ⟨hE, ha⟩ | ⟨hpos, hE, ha⟩
      · have HAQ2 := hide ha
        clear ha
        go_wp2_with fail
        go_meet
        case rel => exact ⟨congrArg Value.bool (unhide HAQ2).symm, unhide X1, unhide Y1, unhide Z1, unhide R1, unhide K1⟩
      · have HAQ2 := hide ha
        clear ha
        have b0 := Code.byt_eq ii 0 hpos
        go_wp2_with fail
        go_meet
        case rel => exact ⟨congrArg Value.bool (by rw [unhide HAQ2]; exact beq63 _), unhide X1, unhide Y1, unhide Z1, unhide R1, unhide K1⟩
    case rest =>
      obtain ⟨rfl, x1, y1, v1, r1, l1⟩ := hcut
      have X2 := hide x1
      have Y2 := hide y1
      have Z2 := hide v1
      have R2 := hide r1
      have K2 := hide l1
      clear x1 y1 v1 r1 l1 cc fc' gc X1 Y1 Z1 R1 K1
      obtain ⟨cc, fc', gc⟩ := unhide Z2
      clear gc
      go_upto_region 9 with fail
      go_cut [56] (fun x wx => x = .bool true ∧ Box wx k #[.int .i64 (n + 1), .int .i64 pc', .string regs', .string cells', .int .i64 clock', .int .i64 handler', .int .i64 back', .bool pending', .bool halted'] ∧ Box wx w1.heap.size #[.int .i64 n, .int .i64 pc, .string regs, .string cells, .int .i64 clock, .int .i64 handler, .int .i64 back, .bool pending, .bool false] ∧ Box wx w.heap.size #[.int .i64 input, .int .i64 ticks, .bool interrupt] ∧ RefAt wx b g cap ⟨p, room, period, ⟨n, pc, regs, cells, clock, handler, back, pending, false⟩, all, from_, last⟩ ∧ Keeps w wx [b, g])
      case first =>
        have hbool := (unhide HAQ).2
        cases interrupt with
        | true =>
          clear hbool
          go_wp2_with fail
          go_meet
          case rel => exact ⟨rfl, unhide X2, unhide Y2, unhide Z2, unhide R2, unhide K2⟩
        | false =>
          by_cases ht : ticks = 0
          · have dt : (ticks != 0) = false := by simp [ht]
            have hb2 : aq = true ∧ input ≠ 0 := by simpa [ht] using hbool
            obtain ⟨rfl, hin⟩ := hb2
            have din : (input != 0) = true := by simp [hin]
            clear hbool ht hin
            go_wp2_with fail
            go_meet
            case rel => exact ⟨rfl, unhide X2, unhide Y2, unhide Z2, unhide R2, unhide K2⟩
          · have dt : (ticks != 0) = true := by simp [ht]
            clear hbool ht
            go_wp2_with fail
            go_meet
            case rel => exact ⟨rfl, unhide X2, unhide Y2, unhide Z2, unhide R2, unhide K2⟩
      case rest =>
        obtain ⟨rfl, x1, y1, v1, r1, l1⟩ := hcut
        have X3 := hide x1
        have Y3 := hide y1
        have Z3 := hide v1
        have R3 := hide r1
        have K3 := hide l1
        clear x1 y1 v1 r1 l1 cc fc' X2 Y2 Z2 R2 K2
        have nkb : k ≠ b := by omega
        have nKb : w1.heap.size ≠ b := by omega
        have nwb : w.heap.size ≠ b := by omega
        go_upto_region 12 with (go_at_call 67; refine (unhide HP _ (unhide R3)).mono ?_; rintro e w4 ⟨rfl, hR, hK⟩; have R4 := hide hR; have X4 := hide ((unhide X3).keeps hK (by simpa using nkb)); have Y4 := hide ((unhide Y3).keeps hK (by simpa using nKb)); have Z4 := hide ((unhide Z3).keeps hK (by simpa using nwb)); have K4 := hide ((unhide K3).trans (hK.mono (by simp))); clear hR hK)
        obtain ⟨g1, hg1⟩ : ∃ g1, g1 = g := ⟨_, rfl⟩
        obtain ⟨cap1, hcap1⟩ : ∃ cap1, cap1 = cap := ⟨_, rfl⟩
        rw [← hg1, ← hcap1] at R4
        have HG1 : Hid ((g1 = g ∨ w.heap.size ≤ g1) ∧ g1 ≠ k ∧ g1 ≠ w1.heap.size ∧ g1 ≠ w.heap.size) := hide ⟨.inl hg1, by omega, by omega, by omega⟩
        have HG2 : Hid (g1 ∈ [b, g] ∨ w.heap.size ≤ g1) := hide (.inl (by simp [hg1]))
        clear hg1 hcap1
        go_cut [] (fun wx => ∃ g2 cap2, RefAt wx b g2 cap2 ⟨p, room, period, ⟨n, pc, regs, cells, clock, handler, back, pending, false⟩, all ++ [fs], pf, last⟩ ∧ Box wx k #[.int .i64 (n + 1), .int .i64 pc', .string regs', .string cells', .int .i64 clock', .int .i64 handler', .int .i64 back', .bool pending', .bool halted'] ∧ Box wx w1.heap.size #[.int .i64 n, .int .i64 pc, .string regs, .string cells, .int .i64 clock, .int .i64 handler, .int .i64 back, .bool pending, .bool false] ∧ Box wx w.heap.size #[.int .i64 input, .int .i64 ticks, .bool interrupt] ∧ Keeps w wx [b, g] ∧ (g2 = g ∨ w.heap.size ≤ g2) ∧ g2 ≠ k ∧ g2 ≠ w1.heap.size ∧ g2 ≠ w.heap.size)
        case first =>
          obtain ⟨c1, f1, lt1⟩ := (unhide R4).box
          obtain ⟨cy, fy, gy⟩ := unhide Y4
          obtain ⟨cz, fz, gz⟩ := unhide Z4
          clear gy gz
          refine region_last2 16 (S := (fun w' => w'.cell? ⟨b, 12, none⟩ = some (.slice (some ⟨g1, 0, none⟩) all.length cap1) ∧ w'.cell? ⟨w1.heap.size, 0, none⟩ = some (.int .i64 n) ∧ w'.cell? ⟨w1.heap.size, 1, none⟩ = some (.int .i64 pc) ∧ w'.cell? ⟨w1.heap.size, 2, none⟩ = some (.string regs) ∧ w'.cell? ⟨w1.heap.size, 3, none⟩ = some (.string cells) ∧ w'.cell? ⟨w1.heap.size, 4, none⟩ = some (.int .i64 clock) ∧ w'.cell? ⟨w1.heap.size, 5, none⟩ = some (.int .i64 handler) ∧ w'.cell? ⟨w1.heap.size, 6, none⟩ = some (.int .i64 back) ∧ w'.cell? ⟨w1.heap.size, 7, none⟩ = some (.bool pending) ∧ w'.cell? ⟨w1.heap.size, 8, none⟩ = some (.bool false))) _ rfl rfl (by kernel_rfl) (by kernel_rfl) (by first | go_keep | (go_simp; done)) (fun hHeld => ?_)
          simp only [List.pop_toArray, List.dropLast_cons_cons, List.dropLast_singleton]
          refine wpAnyH_take (i := 0) (v := ?_) rfl (by kernel_rfl) (by kernel_rfl) (by kernel_rfl) (fun _ _ _ h => h) (Or.inl ⟨by rfl, ?hy⟩) hHeld ?_
          case hy =>
            simp only [List.getElem_toArray, List.getElem_cons_zero]
            intro w' hSw
            (try dsimp only at hSw)
            go_simp
            with_reducible rfl
          simp only [List.getElem_toArray, List.getElem_cons_zero, Act.put, List.setIfInBounds_toArray, List.set_cons_zero, List.set_cons_succ]
          refine wpAnyH_take (i := 1) (v := ?_) rfl (by kernel_rfl) (by kernel_rfl) (by kernel_rfl) (fun _ _ _ h => h) (Or.inl ⟨by rfl, ?hy⟩) hHeld ?_
          case hy =>
            simp only [List.getElem_toArray, List.getElem_cons_succ, List.getElem_cons_zero]
            intro w' hSw
            (try dsimp only at hSw)
            go_simp
            with_reducible rfl
          simp only [List.getElem_toArray, List.getElem_cons_succ, List.getElem_cons_zero, Act.put, List.setIfInBounds_toArray, List.set_cons_zero, List.set_cons_succ]
          refine wpAnyH_take (i := 2) (v := ?_) rfl (by kernel_rfl) (by kernel_rfl) (by kernel_rfl) (fun _ _ _ h => h) (Or.inl ⟨by rfl, ?hy⟩) hHeld ?_
          case hy =>
            simp only [List.getElem_toArray, List.getElem_cons_succ, List.getElem_cons_zero]
            intro w' hSw
            (try dsimp only at hSw)
            go_simp
            with_reducible rfl
          simp only [List.getElem_toArray, List.getElem_cons_succ, List.getElem_cons_zero, Act.put, List.setIfInBounds_toArray, List.set_cons_zero, List.set_cons_succ]
          refine wpAnyH_take (i := 3) (v := ?_) rfl (by kernel_rfl) (by kernel_rfl) (by kernel_rfl) (fun _ _ _ h => h) (Or.inl ⟨by rfl, ?hy⟩) hHeld ?_
          case hy =>
            simp only [List.getElem_toArray, List.getElem_cons_succ, List.getElem_cons_zero]
            intro w' hSw
            (try dsimp only at hSw)
            go_simp
            with_reducible rfl
          simp only [List.getElem_toArray, List.getElem_cons_succ, List.getElem_cons_zero, Act.put, List.setIfInBounds_toArray, List.set_cons_zero, List.set_cons_succ]
          refine wpAnyH_take (i := 4) (v := ?_) rfl (by kernel_rfl) (by kernel_rfl) (by kernel_rfl) (fun _ _ _ h => h) (Or.inl ⟨by rfl, ?hy⟩) hHeld ?_
          case hy =>
            simp only [List.getElem_toArray, List.getElem_cons_succ, List.getElem_cons_zero]
            intro w' hSw
            (try dsimp only at hSw)
            go_simp
            with_reducible rfl
          simp only [List.getElem_toArray, List.getElem_cons_succ, List.getElem_cons_zero, Act.put, List.setIfInBounds_toArray, List.set_cons_zero, List.set_cons_succ]
          refine wpAnyH_take (i := 5) (v := ?_) rfl (by kernel_rfl) (by kernel_rfl) (by kernel_rfl) (fun _ _ _ h => h) (Or.inl ⟨by rfl, ?hy⟩) hHeld ?_
          case hy =>
            simp only [List.getElem_toArray, List.getElem_cons_succ, List.getElem_cons_zero]
            intro w' hSw
            (try dsimp only at hSw)
            go_simp
            with_reducible rfl
          simp only [List.getElem_toArray, List.getElem_cons_succ, List.getElem_cons_zero, Act.put, List.setIfInBounds_toArray, List.set_cons_zero, List.set_cons_succ]
          refine wpAnyH_take (i := 6) (v := ?_) rfl (by kernel_rfl) (by kernel_rfl) (by kernel_rfl) (fun _ _ _ h => h) (Or.inl ⟨by rfl, ?hy⟩) hHeld ?_
          case hy =>
            simp only [List.getElem_toArray, List.getElem_cons_succ, List.getElem_cons_zero]
            intro w' hSw
            (try dsimp only at hSw)
            go_simp
            with_reducible rfl
          simp only [List.getElem_toArray, List.getElem_cons_succ, List.getElem_cons_zero, Act.put, List.setIfInBounds_toArray, List.set_cons_zero, List.set_cons_succ]
          refine wpAnyH_take (i := 7) (v := ?_) rfl (by kernel_rfl) (by kernel_rfl) (by kernel_rfl) (fun _ _ _ h => h) (Or.inl ⟨by rfl, ?hy⟩) hHeld ?_
          case hy =>
            simp only [List.getElem_toArray, List.getElem_cons_succ, List.getElem_cons_zero]
            intro w' hSw
            (try dsimp only at hSw)
            go_simp
            with_reducible rfl
          simp only [List.getElem_toArray, List.getElem_cons_succ, List.getElem_cons_zero, Act.put, List.setIfInBounds_toArray, List.set_cons_zero, List.set_cons_succ]
          refine wpAnyH_take (i := 8) (v := ?_) rfl (by kernel_rfl) (by kernel_rfl) (by kernel_rfl) (fun _ _ _ h => h) (Or.inl ⟨by rfl, ?hy⟩) hHeld ?_
          case hy =>
            simp only [List.getElem_toArray, List.getElem_cons_succ, List.getElem_cons_zero]
            intro w' hSw
            (try dsimp only at hSw)
            go_simp
            with_reducible rfl
          simp only [List.getElem_toArray, List.getElem_cons_succ, List.getElem_cons_zero, Act.put, List.setIfInBounds_toArray, List.set_cons_zero, List.set_cons_succ]
          refine wpAnyH_take (i := 9) (v := ?_) rfl (by kernel_rfl) (by kernel_rfl) (by kernel_rfl) (fun _ _ _ h => h) (Or.inl ⟨by rfl, ?hy⟩) hHeld ?_
          case hy =>
            simp only [List.getElem_toArray, List.getElem_cons_succ, List.getElem_cons_zero]
            intro w' hSw
            (try dsimp only at hSw)
            go_simp
            with_reducible rfl
          simp only [List.getElem_toArray, List.getElem_cons_succ, List.getElem_cons_zero, Act.put, List.setIfInBounds_toArray, List.set_cons_zero, List.set_cons_succ]
          refine wpAnyH_take (i := 10) (v := ?_) rfl (by kernel_rfl) (by kernel_rfl) (by kernel_rfl) (fun _ _ _ h => h) (Or.inl ⟨by rfl, ?hy⟩) hHeld ?_
          case hy =>
            simp only [List.getElem_toArray, List.getElem_cons_succ, List.getElem_cons_zero]
            intro w' hSw
            (try dsimp only at hSw)
            go_simp
            with_reducible rfl
          simp only [List.getElem_toArray, List.getElem_cons_succ, List.getElem_cons_zero, Act.put, List.setIfInBounds_toArray, List.set_cons_zero, List.set_cons_succ]
          refine wpAnyH_ready (rs := [11]) (by kernel_rfl) (by simp) ?_
          refine AllReadyH.cons rfl (fun K hK => ?_) AllReadyH.nil
          simp only [List.getElem_toArray, List.getElem_cons_succ, List.getElem_cons_zero]
          rw [if_pos (by simp [Region.wanted])]
          go_wp2_with (go_at_call 56; refine (unhide HOS _).mono ?_; rintro e w2 ⟨rfl, hb⟩; have L2 := hide (bel_undrew hb); clear hb; have B2 := hide ((unhide R4).box.next (unhide L2)); obtain ⟨c2, f2, lt2⟩ := unhide B2; have Y5 := hide ((unhide Y4).next (unhide L2)); have Z5 := hide ((unhide Z4).next (unhide L2)); obtain ⟨cy2, fy2, gy2⟩ := unhide Y5; obtain ⟨cz2, fz2, gz2⟩ := unhide Z5; clear gy2 gz2)
          refine hK.out _ _ (by first | go_keep | (go_simp; done)) (fun hHeld2 => ?_)
          clear hK K
          refine wpAnyH_ready (rs := [12]) (by kernel_rfl) (by simp) ?_
          refine AllReadyH.cons rfl (fun K hK => ?_) AllReadyH.nil
          simp only [List.getElem_toArray, List.getElem_cons_succ, List.getElem_cons_zero]
          go_simp
          refine hK.out _ _ (by first | go_keep | (go_simp; done)) (fun hHeld3 => ?_)
          clear hK K
          refine wpAnyH_ready (rs := [13]) (by kernel_rfl) (by simp) ?_
          refine AllReadyH.cons rfl (fun K hK => ?_) AllReadyH.nil
          simp only [List.getElem_toArray, List.getElem_cons_succ, List.getElem_cons_zero]
          rw [if_pos (by simp [Region.wanted])]
          refine wp_append_lies _ _ _ _ (by rfl) 0 9 i0 _ 1 16 Tryz.underlying66 hi hz0 hz1 hz2 rfl (by decide) (.slice (some ⟨g1, 0, none⟩) all.length cap1) all.length (all.map Value.string) (by rfl) (own_block (unhide R4).own (later_block (unhide L2) (own_lt (unhide R4).own) _)) ⟨w2.heap.size, 0, none⟩ 1 1 [.string fs] (by rfl) rfl (news_one w2 (.string fs) 9) (one_str fs) (by omega) (by unfold maxLen; omega) (by omega) (Nat.zero_le _) _ rfl ?_
          intro g' cap' w3 hown hgrow hat hlt
          have O3 := hide hown
          have G3 := hide hgrow
          have A3 := hide hat
          clear hown hgrow hat
          have B3 := hide (((unhide B2).alloc _).keeps (grown_keeps (unhide G3) (List.mem_singleton.2 rfl)) (by simpa using (unhide R4).ne))
          have Y6 := hide (((unhide Y5).alloc _).keeps (grown_keeps (unhide G3) (List.mem_singleton.2 rfl)) (by simpa using (unhide HG1).2.2.1.symm))
          have Z6 := hide (((unhide Z5).alloc _).keeps (grown_keeps (unhide G3) (List.mem_singleton.2 rfl)) (by simpa using (unhide HG1).2.2.2.symm))
          obtain ⟨c3, f3, lt3⟩ := unhide B3
          obtain ⟨cy3, fy3, gy3⟩ := unhide Y6
          obtain ⟨cz3, fz3, gz3⟩ := unhide Z6
          clear gy3 gz3
          refine hK.out _ _ (by first | go_keep | (go_simp; done)) (fun hHeld4 => ?_)
          clear hK K
          simp only [Act.put, List.setIfInBounds_toArray, List.set_cons_zero, List.set_cons_succ]
          refine wpAnyH_take (i := 14) (v := ?_) rfl (by kernel_rfl) (by kernel_rfl) (by kernel_rfl) (fun _ _ _ h => h) (Or.inl ⟨by rfl, ?hy⟩) hHeld4 ?_
          case hy =>
            simp only [List.getElem_toArray, List.getElem_cons_succ, List.getElem_cons_zero]
            intro w' hSw
            (try dsimp only at hSw)
            go_simp
            with_reducible rfl
          simp only [List.getElem_toArray, List.getElem_cons_succ, List.getElem_cons_zero, Act.put, List.setIfInBounds_toArray, List.set_cons_zero, List.set_cons_succ]
          refine wpAnyH_take (i := 15) (v := ?_) rfl (by kernel_rfl) (by kernel_rfl) (by kernel_rfl) (fun _ _ _ h => h) (Or.inl ⟨by rfl, ?hy⟩) hHeld4 ?_
          case hy =>
            simp only [List.getElem_toArray, List.getElem_cons_succ, List.getElem_cons_zero]
            intro w' hSw
            (try dsimp only at hSw)
            go_simp
            with_reducible rfl
          simp only [List.getElem_toArray, List.getElem_cons_succ, List.getElem_cons_zero, Act.put, List.setIfInBounds_toArray, List.set_cons_zero, List.set_cons_succ]
          refine wpAnyH_done (by kernel_rfl) ?_ _
          refine last_step rfl (fun K hK => ?_)
          go_simp
          refine (unhide hK) _ _ ?_
          clear hK K
          go_wp2_with fail
          go_meet
          case rel => exact app_done (unhide R4) (unhide L2) (unhide O3) (unhide G3) (unhide A3) (unhide X4) (unhide Y4) (unhide Z4) (unhide K4) nkb nKb nwb (unhide HG1) (unhide HG2)
        case rest =>
          obtain ⟨g2, cap2, r1, x1, y1, v1, l1, j1, j2, j3, j4⟩ := hcut
          have X6 := hide x1
          have Y6 := hide y1
          have Z6 := hide v1
          have R6 := hide r1
          have K6 := hide l1
          have HG3 : Hid ((g2 = g ∨ w.heap.size ≤ g2) ∧ g2 ≠ k ∧ g2 ≠ w1.heap.size ∧ g2 ≠ w.heap.size) := hide ⟨j1, j2, j3, j4⟩
          clear x1 y1 v1 r1 l1 j1 j2 j3 j4
          obtain ⟨al, hal⟩ : ∃ al, al = all ++ [fs] := ⟨_, rfl⟩
          have hall : al.length = all.length + 1 := by rw [hal]; simp
          rw [← hal] at HV HST R6
          have HAL := hide hal
          clear hal
          obtain ⟨c1, f1, lt1⟩ := (unhide R6).box
          obtain ⟨cy, fy, gy⟩ := unhide Y6
          go_upto_region 13 with fail
          go_cut [] (fun wx => RefAt wx b g2 cap2 ⟨p, room, period, ⟨n, pc, regs, cells, clock, handler, back, pending, false⟩, al, pf, n⟩ ∧ Box wx k #[.int .i64 (n + 1), .int .i64 pc', .string regs', .string cells', .int .i64 clock', .int .i64 handler', .int .i64 back', .bool pending', .bool halted'] ∧ Box wx w1.heap.size #[.int .i64 n, .int .i64 pc, .string regs, .string cells, .int .i64 clock, .int .i64 handler, .int .i64 back, .bool pending, .bool false] ∧ Box wx w.heap.size #[.int .i64 input, .int .i64 ticks, .bool interrupt] ∧ Keeps w wx [b, g])
          case first =>
            go_wp2_with fail
            go_meet
            case rel => exact ⟨(unhide R6).setLast n, (unhide X6).off' nkb _, (unhide Y6).off' nKb _, (unhide Z6).off' nwb _, (unhide K6).setCell (by simp) _⟩
          case rest =>
            obtain ⟨r1, x1, y1, v1, l1⟩ := hcut
            have X4 := hide x1
            have Y4 := hide y1
            have Z4 := hide v1
            have R4 := hide r1
            have K4 := hide l1
            clear x1 y1 v1 r1 l1 X6 Y6 Z6 R6 K6 c1 f1 lt1 cy fy gy HG1 HG2
            obtain ⟨g1, hg1⟩ : ∃ g1, g1 = g2 := ⟨_, rfl⟩
            obtain ⟨cap1, hcap1⟩ : ∃ cap1, cap1 = cap2 := ⟨_, rfl⟩
            rw [← hg1, ← hcap1] at R4
            have HG1 : Hid ((g1 = g ∨ w.heap.size ≤ g1) ∧ g1 ≠ k ∧ g1 ≠ w1.heap.size ∧ g1 ≠ w.heap.size) := by rw [hg1]; exact HG3
            have HG2 : Hid (g1 ∈ [b, g] ∨ w.heap.size ≤ g1) := hide (by rcases (unhide HG1).1 with h | h; (· left; simp [h]); (· right; exact h))
            clear hg1 hcap1 HG3
            rw [← hall] at HOC
            have hallb : al.length < 8796093022202 := by omega
            clear hall
            go_upto_region 14 with fail
            go_cut [] (fun wx => ∃ g2 cap2, RefAt wx b g2 cap2 ⟨p, room, period, ⟨n, pc, regs, cells, clock, handler, back, pending, false⟩, al ++ [fc], pf, n⟩ ∧ Box wx k #[.int .i64 (n + 1), .int .i64 pc', .string regs', .string cells', .int .i64 clock', .int .i64 handler', .int .i64 back', .bool pending', .bool halted'] ∧ Box wx w1.heap.size #[.int .i64 n, .int .i64 pc, .string regs, .string cells, .int .i64 clock, .int .i64 handler, .int .i64 back, .bool pending, .bool false] ∧ Box wx w.heap.size #[.int .i64 input, .int .i64 ticks, .bool interrupt] ∧ Keeps w wx [b, g] ∧ (g2 = g ∨ w.heap.size ≤ g2) ∧ g2 ≠ k ∧ g2 ≠ w1.heap.size ∧ g2 ≠ w.heap.size)
            case first =>
              obtain ⟨c1, f1, lt1⟩ := (unhide R4).box
              obtain ⟨cy, fy, gy⟩ := unhide Y4
              obtain ⟨cz, fz, gz⟩ := unhide Z4
              clear gy gz
              refine region_last2 18 (S := (fun w' => w'.cell? ⟨b, 12, none⟩ = some (.slice (some ⟨g1, 0, none⟩) al.length cap1) ∧ w'.cell? ⟨w1.heap.size, 0, none⟩ = some (.int .i64 n) ∧ w'.cell? ⟨w.heap.size, 0, none⟩ = some (.int .i64 input) ∧ w'.cell? ⟨w.heap.size, 1, none⟩ = some (.int .i64 ticks) ∧ w'.cell? ⟨w.heap.size, 2, none⟩ = some (.bool interrupt))) _ rfl rfl (by kernel_rfl) (by kernel_rfl) (by first | go_keep | (go_simp; done)) (fun hHeld => ?_)
              simp only [List.pop_toArray, List.dropLast_cons_cons, List.dropLast_singleton]
              refine wpAnyH_take (i := 0) (v := ?_) rfl (by kernel_rfl) (by kernel_rfl) (by kernel_rfl) (fun _ _ _ h => h) (Or.inl ⟨by rfl, ?hy⟩) hHeld ?_
              case hy =>
                simp only [List.getElem_toArray, List.getElem_cons_zero]
                intro w' hSw
                (try dsimp only at hSw)
                go_simp
                with_reducible rfl
              simp only [List.getElem_toArray, List.getElem_cons_zero, Act.put, List.setIfInBounds_toArray, List.set_cons_zero, List.set_cons_succ]
              refine wpAnyH_take (i := 1) (v := ?_) rfl (by kernel_rfl) (by kernel_rfl) (by kernel_rfl) (fun _ _ _ h => h) (Or.inl ⟨by rfl, ?hy⟩) hHeld ?_
              case hy =>
                simp only [List.getElem_toArray, List.getElem_cons_succ, List.getElem_cons_zero]
                intro w' hSw
                (try dsimp only at hSw)
                go_simp
                with_reducible rfl
              simp only [List.getElem_toArray, List.getElem_cons_succ, List.getElem_cons_zero, Act.put, List.setIfInBounds_toArray, List.set_cons_zero, List.set_cons_succ]
              refine wpAnyH_take (i := 2) (v := ?_) rfl (by kernel_rfl) (by kernel_rfl) (by kernel_rfl) (fun _ _ _ h => h) (Or.inl ⟨by rfl, ?hy⟩) hHeld ?_
              case hy =>
                simp only [List.getElem_toArray, List.getElem_cons_succ, List.getElem_cons_zero]
                intro w' hSw
                (try dsimp only at hSw)
                go_simp
                with_reducible rfl
              simp only [List.getElem_toArray, List.getElem_cons_succ, List.getElem_cons_zero, Act.put, List.setIfInBounds_toArray, List.set_cons_zero, List.set_cons_succ]
              refine wpAnyH_take (i := 3) (v := ?_) rfl (by kernel_rfl) (by kernel_rfl) (by kernel_rfl) (fun _ _ _ h => h) (Or.inl ⟨by rfl, ?hy⟩) hHeld ?_
              case hy =>
                simp only [List.getElem_toArray, List.getElem_cons_succ, List.getElem_cons_zero]
                intro w' hSw
                (try dsimp only at hSw)
                go_simp
                with_reducible rfl
              simp only [List.getElem_toArray, List.getElem_cons_succ, List.getElem_cons_zero, Act.put, List.setIfInBounds_toArray, List.set_cons_zero, List.set_cons_succ]
              refine wpAnyH_take (i := 4) (v := ?_) rfl (by kernel_rfl) (by kernel_rfl) (by kernel_rfl) (fun _ _ _ h => h) (Or.inl ⟨by rfl, ?hy⟩) hHeld ?_
              case hy =>
                simp only [List.getElem_toArray, List.getElem_cons_succ, List.getElem_cons_zero]
                intro w' hSw
                (try dsimp only at hSw)
                go_simp
                with_reducible rfl
              simp only [List.getElem_toArray, List.getElem_cons_succ, List.getElem_cons_zero, Act.put, List.setIfInBounds_toArray, List.set_cons_zero, List.set_cons_succ]
              refine wpAnyH_take (i := 5) (v := ?_) rfl (by kernel_rfl) (by kernel_rfl) (by kernel_rfl) (fun _ _ _ h => h) (Or.inl ⟨by rfl, ?hy⟩) hHeld ?_
              case hy =>
                simp only [List.getElem_toArray, List.getElem_cons_succ, List.getElem_cons_zero]
                intro w' hSw
                (try dsimp only at hSw)
                go_simp
                with_reducible rfl
              simp only [List.getElem_toArray, List.getElem_cons_succ, List.getElem_cons_zero, Act.put, List.setIfInBounds_toArray, List.set_cons_zero, List.set_cons_succ]
              refine wpAnyH_take (i := 6) (v := ?_) rfl (by kernel_rfl) (by kernel_rfl) (by kernel_rfl) (fun _ _ _ h => h) (Or.inl ⟨by rfl, ?hy⟩) hHeld ?_
              case hy =>
                simp only [List.getElem_toArray, List.getElem_cons_succ, List.getElem_cons_zero]
                intro w' hSw
                (try dsimp only at hSw)
                go_simp
                with_reducible rfl
              simp only [List.getElem_toArray, List.getElem_cons_succ, List.getElem_cons_zero, Act.put, List.setIfInBounds_toArray, List.set_cons_zero, List.set_cons_succ]
              refine wpAnyH_take (i := 7) (v := ?_) rfl (by kernel_rfl) (by kernel_rfl) (by kernel_rfl) (fun _ _ _ h => h) (Or.inl ⟨by rfl, ?hy⟩) hHeld ?_
              case hy =>
                simp only [List.getElem_toArray, List.getElem_cons_succ, List.getElem_cons_zero]
                intro w' hSw
                (try dsimp only at hSw)
                go_simp
                with_reducible rfl
              simp only [List.getElem_toArray, List.getElem_cons_succ, List.getElem_cons_zero, Act.put, List.setIfInBounds_toArray, List.set_cons_zero, List.set_cons_succ]
              refine wpAnyH_take (i := 8) (v := ?_) rfl (by kernel_rfl) (by kernel_rfl) (by kernel_rfl) (fun _ _ _ h => h) (Or.inl ⟨by rfl, ?hy⟩) hHeld ?_
              case hy =>
                simp only [List.getElem_toArray, List.getElem_cons_succ, List.getElem_cons_zero]
                intro w' hSw
                (try dsimp only at hSw)
                go_simp
                with_reducible rfl
              simp only [List.getElem_toArray, List.getElem_cons_succ, List.getElem_cons_zero, Act.put, List.setIfInBounds_toArray, List.set_cons_zero, List.set_cons_succ]
              refine wpAnyH_take (i := 9) (v := ?_) rfl (by kernel_rfl) (by kernel_rfl) (by kernel_rfl) (fun _ _ _ h => h) (Or.inl ⟨by rfl, ?hy⟩) hHeld ?_
              case hy =>
                simp only [List.getElem_toArray, List.getElem_cons_succ, List.getElem_cons_zero]
                intro w' hSw
                (try dsimp only at hSw)
                go_simp
                with_reducible rfl
              simp only [List.getElem_toArray, List.getElem_cons_succ, List.getElem_cons_zero, Act.put, List.setIfInBounds_toArray, List.set_cons_zero, List.set_cons_succ]
              refine wpAnyH_take (i := 10) (v := ?_) rfl (by kernel_rfl) (by kernel_rfl) (by kernel_rfl) (fun _ _ _ h => h) (Or.inl ⟨by rfl, ?hy⟩) hHeld ?_
              case hy =>
                simp only [List.getElem_toArray, List.getElem_cons_succ, List.getElem_cons_zero]
                intro w' hSw
                (try dsimp only at hSw)
                go_simp
                with_reducible rfl
              simp only [List.getElem_toArray, List.getElem_cons_succ, List.getElem_cons_zero, Act.put, List.setIfInBounds_toArray, List.set_cons_zero, List.set_cons_succ]
              refine wpAnyH_take (i := 11) (v := ?_) rfl (by kernel_rfl) (by kernel_rfl) (by kernel_rfl) (fun _ _ _ h => h) (Or.inl ⟨by rfl, ?hy⟩) hHeld ?_
              case hy =>
                simp only [List.getElem_toArray, List.getElem_cons_succ, List.getElem_cons_zero]
                intro w' hSw
                (try dsimp only at hSw)
                go_simp
                with_reducible rfl
              simp only [List.getElem_toArray, List.getElem_cons_succ, List.getElem_cons_zero, Act.put, List.setIfInBounds_toArray, List.set_cons_zero, List.set_cons_succ]
              refine wpAnyH_take (i := 12) (v := ?_) rfl (by kernel_rfl) (by kernel_rfl) (by kernel_rfl) (fun _ _ _ h => h) (Or.inl ⟨by rfl, ?hy⟩) hHeld ?_
              case hy =>
                simp only [List.getElem_toArray, List.getElem_cons_succ, List.getElem_cons_zero]
                intro w' hSw
                (try dsimp only at hSw)
                go_simp
                with_reducible rfl
              simp only [List.getElem_toArray, List.getElem_cons_succ, List.getElem_cons_zero, Act.put, List.setIfInBounds_toArray, List.set_cons_zero, List.set_cons_succ]
              refine wpAnyH_ready (rs := [13]) (by kernel_rfl) (by simp) ?_
              refine AllReadyH.cons rfl (fun K hK => ?_) AllReadyH.nil
              simp only [List.getElem_toArray, List.getElem_cons_succ, List.getElem_cons_zero]
              rw [if_pos (by simp [Region.wanted])]
              go_wp2_with (go_at_call 68; refine (unhide HOC _).mono ?_; rintro e w2 ⟨rfl, hb⟩; have L2 := hide (bel_undrew hb); clear hb; have B2 := hide ((unhide R4).box.next (unhide L2)); obtain ⟨c2, f2, lt2⟩ := unhide B2; have Y5 := hide ((unhide Y4).next (unhide L2)); have Z5 := hide ((unhide Z4).next (unhide L2)); obtain ⟨cy2, fy2, gy2⟩ := unhide Y5; obtain ⟨cz2, fz2, gz2⟩ := unhide Z5; clear gy2 gz2)
              refine hK.out _ _ (by first | go_keep | (go_simp; done)) (fun hHeld2 => ?_)
              clear hK K
              refine wpAnyH_ready (rs := [14]) (by kernel_rfl) (by simp) ?_
              refine AllReadyH.cons rfl (fun K hK => ?_) AllReadyH.nil
              simp only [List.getElem_toArray, List.getElem_cons_succ, List.getElem_cons_zero]
              go_simp
              refine hK.out _ _ (by first | go_keep | (go_simp; done)) (fun hHeld3 => ?_)
              clear hK K
              refine wpAnyH_ready (rs := [15]) (by kernel_rfl) (by simp) ?_
              refine AllReadyH.cons rfl (fun K hK => ?_) AllReadyH.nil
              simp only [List.getElem_toArray, List.getElem_cons_succ, List.getElem_cons_zero]
              rw [if_pos (by simp [Region.wanted])]
              refine wp_append_lies _ _ _ _ (by rfl) 0 9 i0 _ 1 16 Tryz.underlying66 hi hz0 hz1 hz2 rfl (by decide) (.slice (some ⟨g1, 0, none⟩) al.length cap1) al.length (al.map Value.string) (by rfl) (own_block (unhide R4).own (later_block (unhide L2) (own_lt (unhide R4).own) _)) ⟨w2.heap.size, 0, none⟩ 1 1 [.string fc] (by rfl) rfl (news_one w2 (.string fc) 9) (one_str fc) (by omega) (by unfold maxLen; omega) (by omega) (Nat.zero_le _) _ rfl ?_
              intro g' cap' w3 hown hgrow hat hlt
              have O3 := hide hown
              have G3 := hide hgrow
              have A3 := hide hat
              clear hown hgrow hat
              have B3 := hide (((unhide B2).alloc _).keeps (grown_keeps (unhide G3) (List.mem_singleton.2 rfl)) (by simpa using (unhide R4).ne))
              have Y6 := hide (((unhide Y5).alloc _).keeps (grown_keeps (unhide G3) (List.mem_singleton.2 rfl)) (by simpa using (unhide HG1).2.2.1.symm))
              have Z6 := hide (((unhide Z5).alloc _).keeps (grown_keeps (unhide G3) (List.mem_singleton.2 rfl)) (by simpa using (unhide HG1).2.2.2.symm))
              obtain ⟨c3, f3, lt3⟩ := unhide B3
              obtain ⟨cy3, fy3, gy3⟩ := unhide Y6
              obtain ⟨cz3, fz3, gz3⟩ := unhide Z6
              clear gy3 gz3
              refine hK.out _ _ (by first | go_keep | (go_simp; done)) (fun hHeld4 => ?_)
              clear hK K
              simp only [Act.put, List.setIfInBounds_toArray, List.set_cons_zero, List.set_cons_succ]
              refine wpAnyH_take (i := 16) (v := ?_) rfl (by kernel_rfl) (by kernel_rfl) (by kernel_rfl) (fun _ _ _ h => h) (Or.inl ⟨by rfl, ?hy⟩) hHeld4 ?_
              case hy =>
                simp only [List.getElem_toArray, List.getElem_cons_succ, List.getElem_cons_zero]
                intro w' hSw
                (try dsimp only at hSw)
                go_simp
                with_reducible rfl
              simp only [List.getElem_toArray, List.getElem_cons_succ, List.getElem_cons_zero, Act.put, List.setIfInBounds_toArray, List.set_cons_zero, List.set_cons_succ]
              refine wpAnyH_take (i := 17) (v := ?_) rfl (by kernel_rfl) (by kernel_rfl) (by kernel_rfl) (fun _ _ _ h => h) (Or.inl ⟨by rfl, ?hy⟩) hHeld4 ?_
              case hy =>
                simp only [List.getElem_toArray, List.getElem_cons_succ, List.getElem_cons_zero]
                intro w' hSw
                (try dsimp only at hSw)
                go_simp
                with_reducible rfl
              simp only [List.getElem_toArray, List.getElem_cons_succ, List.getElem_cons_zero, Act.put, List.setIfInBounds_toArray, List.set_cons_zero, List.set_cons_succ]
              refine wpAnyH_done (by kernel_rfl) ?_ _
              refine last_step rfl (fun K hK => ?_)
              go_simp
              refine (unhide hK) _ _ ?_
              clear hK K
              go_wp2_with fail
              go_meet
              case rel => exact app_done (unhide R4) (unhide L2) (unhide O3) (unhide G3) (unhide A3) (unhide X4) (unhide Y4) (unhide Z4) (unhide K4) nkb nKb nwb (unhide HG1) (unhide HG2)
            case rest =>
              obtain ⟨g2, cap2, r1, x1, y1, v1, l1, j1, j2, j3, j4⟩ := hcut
              have X7 := hide x1
              have Y7 := hide y1
              have Z7 := hide v1
              have R7 := hide r1
              have K7 := hide l1
              have HG3 : Hid ((g2 = g ∨ w.heap.size ≤ g2) ∧ g2 ≠ k ∧ g2 ≠ w1.heap.size ∧ g2 ≠ w.heap.size) := hide ⟨j1, j2, j3, j4⟩
              clear x1 y1 v1 r1 l1 j1 j2 j3 j4
              obtain ⟨na, hna⟩ : ∃ na, na = al ++ [fc] := ⟨_, rfl⟩
              rw [← hna] at HV HST R7
              clear hna
              obtain ⟨c1, f1, lt1⟩ := (unhide R7).box
              obtain ⟨cy, fy, gy⟩ := unhide X7
              have hwr := unhide hw
              have nkb2 : b ≠ k := fun e => nkb e.symm
              have R8 := hide ((unhide R7).setS ⟨n + 1, pc', regs', cells', clock', handler', back', pending', halted'⟩)
              have K8 := hide (keepsS (unhide K7) (.int .i64 (n + 1)) (.int .i64 pc') (.string regs') (.string cells') (.int .i64 clock') (.int .i64 handler') (.int .i64 back') (.bool pending') (.bool halted'))
              go_upto_region 16 with fail
              go_quiet (fail)
              go_wp2_with fail
              · refine (unhide HV _ _ _ ((unhide R8).drewN _)).mono ?_
                rintro e w9 ⟨rfl, g', cap', h3, h4, h5⟩
                have R9 := hide h3
                have G9 : Hid (g' = g ∨ w.heap.size ≤ g') := hide (by
                  have hs := ((unhide K8).drewN nq).size
                  rcases h4 with h | h
                  · rw [h]; exact (unhide HG3).1
                  · right; exact Nat.le_trans hs h)
                have K9 := hide (keeps_more ((unhide K8).drewN nq) h5 (by
                  rcases (unhide HG3).1 with h | h
                  · left; simp [h]
                  · right; exact h))
                clear h3 h4 h5
                go_wp2_with fail
                go_ret
                refine ⟨rfl, ?_⟩
                rw [unhide HST, if_pos (by omega)]
                exact ⟨g', cap', unhide R9, unhide G9, unhide K9⟩
              · go_ret
                refine ⟨rfl, ?_⟩
                rw [unhide HST, if_neg (by omega)]
                first | exact ⟨g2, cap2, (unhide R8).drewN _, (unhide HG3).1, (unhide K8).drewN _⟩ | exact ⟨g2, ⟨cap2, (unhide R8).drewN _⟩, (unhide HG3).1, (unhide K8).drewN _⟩
end Go.Proofs.YtcmoffiigpchiaaGreat
