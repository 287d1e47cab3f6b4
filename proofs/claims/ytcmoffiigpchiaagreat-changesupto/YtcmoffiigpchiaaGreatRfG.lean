import Derived.Test.YtcmoffiigpchiaaGreatRfF
import Derived.Test.YtcmoffiigpchiaaGreatStepR
namespace Go.Proofs.YtcmoffiigpchiaaGreat
open Go.RowKit

abbrev stA (s : StV) : Array Value := #[.int .i64 s.n, .int .i64 s.pc, .string s.regs, .string s.cells, .int .i64 s.clock, .int .i64 s.handler, .int .i64 s.back, .bool s.pending, .bool s.halted]
abbrev chA (c : ChV) : Array Value := #[.int .i64 c.input, .int .i64 c.ticks, .bool c.interrupt]
/-- The choice of a time, of the first i entries behind one. -/
def choiceUp (l : List Hist.En) (f i : Nat) (m : Int) : ChV := Hist.choiceAt ((l.drop (f + 1)).take (i - (f + 1))) m
/-- What holds while the document goes up to a time. -/
def StoodInv (w wr : World) (p : ByteArray) (l : List Hist.En) (g b f : Nat) (n : Int) (e : Hist.En) : Prop :=
  ∃ (k : Nat) (s : StV), e.s.n + k ≤ n ∧ Hist.up p (l.drop (f + 1)) e.s k = some s ∧ Mach.Legal s ∧ Box wr b (stA s) ∧ Box wr w.heap.size #[.int .i64 0, .int .i64 0, .string ⟨#[]⟩, .string ⟨#[]⟩, .int .i64 0, .int .i64 0, .int .i64 0, .bool false, .bool false] ∧ LiesE wr g l ∧ w.heap.size < b ∧ Below w.heap.size w wr

/-- What holds while the document looks for a choice. -/
def ChoiceInv (w wr : World) (l : List Hist.En) (g b bc f i : Nat) (s : StV) : Prop :=
  Box wr b (stA s) ∧ Box wr w.heap.size #[.int .i64 0, .int .i64 0, .string ⟨#[]⟩, .string ⟨#[]⟩, .int .i64 0, .int .i64 0, .int .i64 0, .bool false, .bool false] ∧ Box wr bc (chA (choiceUp l f i s.n)) ∧ LiesE wr g l ∧ Below w.heap.size w wr
theorem choiceUp_start (l : List Hist.En) (f : Nat) (m : Int) : choiceUp l f (f + 1) m = Hist.noCh := by
  unfold choiceUp
  rw [Nat.sub_self]
  rfl
theorem choiceUp_next {l : List Hist.En} {f i : Nat} {m : Int} {e : Hist.En} (hi : f + 1 ≤ i) (he : l[i]? = some e) : choiceUp l f (i + 1) m = if e.st = false ∧ (e.n : Int) = m then e.c else choiceUp l f i m := by
  unfold choiceUp Hist.choiceAt
  have h1 : (l.drop (f + 1))[i - (f + 1)]? = some e := by rw [List.getElem?_drop, show f + 1 + (i - (f + 1)) = i by omega]; exact he
  have hlt := (List.getElem?_eq_some_iff.1 h1).1
  rw [show i + 1 - (f + 1) = (i - (f + 1)) + 1 by omega, List.take_succ_eq_append_getElem hlt, List.foldl_append]
  rw [List.getElem?_eq_getElem hlt] at h1
  rw [Option.some.inj h1]
  rfl
theorem choiceUp_all {l : List Hist.En} {f : Nat} {m : Int} : choiceUp l f l.length m = Hist.choiceAt (l.drop (f + 1)) m := by
  unfold choiceUp
  rw [List.take_of_length_le (by simp)]
theorem LiesE.keep {w w1 : World} {g : Nat} {l : List Hist.En} {o : List Nat} (h : LiesE w g l) (k : Keeps w w1 o) (hg : g ∉ o) : LiesE w1 g l :=
  ⟨Nat.lt_of_lt_of_le h.lt k.size, fun i e hi j v hv => by rw [World.cell?_of_block (w := w) (k.block g h.lt hg)]; exact h.at_ i e hi j v hv⟩

theorem up_none {p : ByteArray} {l : List Hist.En} {s : StV} {k : Nat} (h : Hist.up p l s k = none) : ∀ d, Hist.up p l s (k + d) = none := by
  intro d
  induction d with
  | zero => exact h
  | succ d ih =>
    show (Hist.up p l s (k + d)).bind _ = none
    rw [ih]
    rfl

set_option maxRecDepth 100000 in
set_option maxHeartbeats 4000000 in
theorem stood_ref (p : ByteArray) (hg : (Code.chk p).1 = 0) (l : List Hist.En) (g cap : Nat) (n : Int) (w : World) (hT : Hist.Tells l n) (hl : l.length < 1000000) (hL : LiesE w g l) (rs : StV) (ok : Bool) (hr : (rs, ok) = match Hist.stood p l n with | some s => (s, true) | none => (Mach.zero, false)) :
    Calls Tryz.prog 63 #[.string p, .slice (some ⟨g, 0, none⟩) l.length cap, .int .i64 n] w fun e w' => e = .returned (.tuple #[rs.val, .bool ok]) ∧ Below w.heap.size w w' := by
  obtain ⟨⟨e, he, hes, hen⟩, hlast⟩ := hT.from
  have hgw := hL.lt
  have HRS := hide hr
  clear hr
  go_enter Tryz.func63, Tryz.ntmps63
  go_wp2_with fail
  have Y0 := hide (Box.new w #[.int .i64 0, .int .i64 0, .string ⟨#[]⟩, .string ⟨#[]⟩, .int .i64 0, .int .i64 0, .int .i64 0, .bool false, .bool false] 30)
  have B0 := hide ((Below.refl w.heap.size w).alloc (Nat.le_refl _) (.cells #[.int .i64 0, .int .i64 0, .string ⟨#[]⟩, .string ⟨#[]⟩, .int .i64 0, .int .i64 0, .int .i64 0, .bool false, .bool false] 30))
  have L0 := hide (hL.next (unhide B0))
  have hwy : (w.alloc (.cells #[.int .i64 0, .int .i64 0, .string ⟨#[]⟩, .string ⟨#[]⟩, .int .i64 0, .int .i64 0, .int .i64 0, .bool false, .bool false] 30)).heap.size = w.heap.size + 1 := by simp
  generalize w.alloc (.cells #[.int .i64 0, .int .i64 0, .string ⟨#[]⟩, .string ⟨#[]⟩, .int .i64 0, .int .i64 0, .int .i64 0, .bool false, .bool false] 30) = wy at *
  go_loop [8, 9] (fun f i => ∃ k : Nat, k ≤ l.length ∧ i = .int .i64 k ∧ f = .int .i64 (Hist.fromUp l n k : Nat)) (fun _ i => l.length - (intOf i).toNat)
  case atStart => exact ⟨0, Nat.zero_le _, rfl, rfl⟩
  case round =>
    obtain ⟨k, hk, rfl, rfl⟩ := hrel
    by_cases hlt : k < l.length
    · obtain ⟨x, hx⟩ : ∃ x, l[k]? = some x := ⟨_, List.getElem?_eq_getElem hlt⟩
      have hrr := (unhide L0).at_ k x hx
      have c0 := hrr 0 _ rfl
      have c1 := hrr 1 _ rfl
      rw [Nat.add_zero] at c0
      have hup : Hid (Hist.fromUp l n (k + 1) = if x.st = true ∧ (x.n : Int) ≤ n then k else Hist.fromUp l n k) := hide (by
        conv => lhs; unfold Hist.fromUp
        rw [hx])
      have HE := hide he
      have HLA := hide hlast
      clear hrr hx he hlast
      cases hst : x.st with
      | false =>
        rw [hst] at c0 hup
        go_wp2_with fail
        go_round
        case rel => exact ⟨k + 1, by omega, by go_num, by rw [unhide hup]; simp⟩
        case measure => simp [intOf]; omega
      | true =>
        rw [hst] at c0 hup
        by_cases hn : (x.n : Int) ≤ n
        · go_wp2_with fail
          go_round
          case rel => exact ⟨k + 1, by omega, by go_num, by rw [unhide hup, if_pos ⟨rfl, hn⟩]⟩
          case measure => simp [intOf]; omega
        · go_wp2_with fail
          go_round
          case rel => exact ⟨k + 1, by omega, by go_num, by rw [unhide hup, if_neg (fun h => hn h.2)]⟩
          case measure => simp [intOf]; omega
    · have hkl : k = l.length := by omega
      subst hkl
      have hfl : Hist.fromUp l n l.length < l.length := (List.getElem?_eq_some_iff.1 he).1
      have HFR : Hid (Hist.fromUp l n l.length = Hist.fromOf l n) := hide rfl
      have hrr := (unhide L0).at_ (Hist.fromUp l n l.length) e he
      generalize Hist.fromUp l n l.length = f at *
      have r2 := hrr 2 _ rfl
      have r3 := hrr 3 _ rfl
      have r4 := hrr 4 _ rfl
      have r5 := hrr 5 _ rfl
      have r6 := hrr 6 _ rfl
      have r7 := hrr 7 _ rfl
      have r8 := hrr 8 _ rfl
      have r9 := hrr 9 _ rfl
      have r10 := hrr 10 _ rfl
      have HE := hide he
      have HLA := hide hlast
      have HT := hide hT
      clear hrr he hlast hT
      have i1 : (f : Int) < (l.length : Int) := by omega
      go_wp2_with fail
      have hok := (unhide HT).run.ok e (List.mem_of_getElem? (unhide HE))
      have hen2 := hok.sN hes
      have I0 : Hid (StoodInv w (wy.alloc (.cells (stA e.s) 30)) p l g (w.heap.size + 1) f n e) := hide ⟨0, e.s, by rw [hen2]; omega, rfl, hok.sL hes, (by have h := Box.new wy (stA e.s) 30; rw [hwy] at h; exact h), (unhide Y0).alloc _, (unhide L0).next ((Below.refl _ _).alloc (Nat.le_refl _) _), by omega, (unhide B0).alloc (unhide B0).size _⟩
      have HEN2 := hide hen2
      clear r2 r3 r4 r5 r6 r7 r8 r9 r10 hen2
      go_loopw [] (fun wr => StoodInv w wr p l g (w.heap.size + 1) f n e) (fun wr => leftAt wr (w.heap.size + 1) n)
      case atStart => exact unhide I0
      case round =>
        obtain ⟨k, s, hk, hup, hleg, hX, hY, hLL, hbb, hB⟩ := hrel
        have X1 := hide hX
        have Y1 := hide hY
        have L1 := hide hLL
        have B1 := hide hB
        have HUP := hide hup
        have hsn := Hist.up_n k s hup
        clear hX hY hLL hB hup I0
        obtain ⟨cx, fx, gx⟩ := unhide X1
        clear gx
        by_cases hlt2 : s.n < n
        · obtain ⟨sn, pc, regs, cells, clock, handler, back, pending, halted⟩ := s
          simp only at hlt2 hsn
          have HSN := hide hsn
          have HK := hide hk
          clear hsn hk
          simp only [stA] at X1 cx
          have hz1 := (unhide B1).size
          go_wp2_with fail
          have Z2 := hide (Box.new wr #[.int .i64 0, .int .i64 0, .bool false] 32)
          have X2 := hide ((unhide X1).alloc (.cells #[.int .i64 0, .int .i64 0, .bool false] 32))
          have Y2 := hide ((unhide Y1).alloc (.cells #[.int .i64 0, .int .i64 0, .bool false] 32))
          have L2 := hide ((unhide L1).next ((Below.refl wr.heap.size wr).alloc (Nat.le_refl _) (.cells #[.int .i64 0, .int .i64 0, .bool false] 32)))
          have B2 := hide ((unhide B1).alloc (unhide B1).size (.cells #[.int .i64 0, .int .i64 0, .bool false] 32))
          have hx1 := (unhide X1).lt
          obtain ⟨bc, hbc⟩ : ∃ bc, bc = wr.heap.size := ⟨_, rfl⟩
          rw [← hbc] at Z2 ⊢
          have HBC := hide hbc
          have hbc2 : w.heap.size + 1 < bc := by omega
          clear hbc
          generalize wr.alloc (.cells #[.int .i64 0, .int .i64 0, .bool false] 32) = w2 at *
          go_loopw [12] (fun i wx => ∃ q : Nat, f + 1 ≤ q ∧ q ≤ l.length ∧ i = .int .i64 q ∧ ChoiceInv w wx l g (w.heap.size + 1) bc f q ⟨sn, pc, regs, cells, clock, handler, back, pending, halted⟩) (fun i _ => l.length - (intOf i).toNat)
          case atStart => exact ⟨f + 1, by omega, by omega, by go_num, unhide X2, unhide Y2, (by rw [choiceUp_start]; exact unhide Z2), unhide L2, unhide B2⟩
          case round =>
            obtain ⟨q, hq1, hq2, rfl, hX, hY, hZ, hLL, hB⟩ := hrel
            have X3 := hide hX
            have Y3 := hide hY
            have Z3 := hide hZ
            have L3 := hide hLL
            have B3 := hide hB
            clear hX hY hZ hLL hB cx fx X2 Y2 Z2 L2 B2
            simp only [stA] at X3
            obtain ⟨cx, fx, gx⟩ := unhide X3
            clear gx
            by_cases hlq : q < l.length
            · obtain ⟨x, hx⟩ : ∃ x, l[q]? = some x := ⟨_, List.getElem?_eq_getElem hlq⟩
              have hrr := (unhide L3).at_ q x hx
              have c0 := hrr 0 _ rfl
              have c1 := hrr 1 _ rfl
              have c11 := hrr 11 _ rfl
              have c12 := hrr 12 _ rfl
              have c13 := hrr 13 _ rfl
              rw [Nat.add_zero] at c0
              have hcu := hide (choiceUp_next (m := sn) hq1 hx)
              have i2 : (q : Int) < (l.length : Int) := by omega
              clear hrr hx
              obtain ⟨xst, xk, xn, xs, ⟨xi, xt, xb⟩⟩ := x
              simp only at c0 c1 c11 c12 c13 hcu
              cases xst with
              | true =>
                simp only [Bool.true_eq_false, false_and, if_false] at hcu
                go_wp2_with fail
                go_quiet (fail)
                go_wp2_with fail
                go_roundw
                case rel => exact ⟨q + 1, by omega, by omega, by go_num, (unhide X3).drewN _, (unhide Y3).drewN _, (by rw [unhide hcu]; exact (unhide Z3).drewN _), ⟨(unhide L3).lt, (unhide L3).at_⟩, bel_drewN (unhide B3) _⟩
                case measure => simp [intOf]; omega
              | false =>
                by_cases hn : (xn : Int) = sn
                · have dn : ((xn : Int) == sn) = true := by simp [hn]
                  have hcu2 : Hid (choiceUp l f (q + 1) sn = ⟨xi, xt, xb⟩) := hide (by rw [unhide hcu]; simp [hn])
                  clear hn
                  go_wp2_with fail
                  go_quiet (fail)
                  obtain ⟨cz, fz, gz⟩ := (unhide Z3).drewN nq
                  clear gz
                  go_wp2_with fail
                  go_roundw
                  case rel =>
                    refine ⟨q + 1, by omega, by omega, by go_num, ?_, ?_, ?_, ?_, ?_⟩
                    · repeat (refine Box.off ?_ (by simp; omega) _)
                      exact (unhide X3).drewN _
                    · repeat (refine Box.off ?_ (by simp; omega) _)
                      exact (unhide Y3).drewN _
                    · rw [unhide hcu2]
                      exact ((unhide Z3).drewN _).put3 _ _ _
                    · refine LiesE.keep (w := wr.drewN nq) ⟨(unhide L3).lt, (unhide L3).at_⟩ (o := [bc]) ?_ (by simp; omega)
                      repeat (refine Keeps.setCell ?_ (by simp) _)
                      exact Keeps.refl _ _
                    · repeat (refine Below.setCell ?_ (by simp; omega) _)
                      exact bel_drewN (unhide B3) _
                  case measure => simp [intOf]; omega
                · have dn : ((xn : Int) == sn) = false := by simp [hn]
                  have hcu3 : Hid (choiceUp l f (q + 1) sn = choiceUp l f q sn) := hide (by rw [unhide hcu]; simp [hn])
                  clear hn
                  go_wp2_with fail
                  go_quiet (fail)
                  go_wp2_with fail
                  go_roundw
                  case rel => exact ⟨q + 1, by omega, by omega, by go_num, (unhide X3).drewN _, (unhide Y3).drewN _, (by rw [unhide hcu3]; exact (unhide Z3).drewN _), ⟨(unhide L3).lt, (unhide L3).at_⟩, bel_drewN (unhide B3) _⟩
                  case measure => simp [intOf]; omega
            · have hql : q = l.length := by omega
              subst hql
              have hcall : choiceUp l f l.length sn = Hist.choiceAt (l.drop (f + 1)) sn := choiceUp_all
              have hch := Hist.choiceAt_chosen (l := l.drop (f + 1)) (fun x hx => (unhide HT).run.ok x (List.mem_of_mem_drop hx)) sn
              have HST : Hid (Hist.stood p l n = Hist.up p (l.drop (f + 1)) e.s (n - e.s.n).toNat) := hide (by
                unfold Hist.stood
                rw [← unhide HFR] at *
                rw [show l[f]? = some e from by rw [unhide HFR]; exact unhide HE])
              have HUK : Hid (Hist.up p (l.drop (f + 1)) e.s (k + 1) = Hist.nextO p ⟨sn, pc, regs, cells, clock, handler, back, pending, halted⟩ (Hist.choiceAt (l.drop (f + 1)) sn)) := hide (by
                show (Hist.up p (l.drop (f + 1)) e.s k).bind _ = _
                rw [unhide HUP]
                rfl)
              rw [hcall] at Z3
              generalize Hist.choiceAt (l.drop (f + 1)) sn = c at *
              have hne1 := unhide HSN
              have hne2 := unhide HK
              by_cases hh : halted = true ∨ 10000 ≤ sn
              · have hno : Hist.nextO p ⟨sn, pc, regs, cells, clock, handler, back, pending, halted⟩ c = none := by unfold Hist.nextO; rw [if_pos hh]
                have hst : Hist.stood p l n = none := by
                  rw [unhide HST]
                  have h := up_none ((unhide HUK).trans hno) ((n - e.s.n).toNat - (k + 1))
                  rw [show k + 1 + ((n - e.s.n).toNat - (k + 1)) = (n - e.s.n).toNat by omega] at h
                  exact h
                have hrr := unhide HRS
                rw [hst] at hrr
                simp only [Prod.mk.injEq] at hrr
                obtain ⟨rfl, rfl⟩ := hrr
                have HN := hide (next_halt p ⟨sn, pc, regs, cells, clock, handler, back, pending, halted⟩ c hh)
                clear hh hno hst hne1 hne2 hch hcall
                obtain ⟨ci, ct, cb⟩ := c
                simp only [chA] at Z3
                obtain ⟨cz, fz, gz⟩ := unhide Z3
                clear gz
                go_wp2_with fail
                refine (unhide HN _).mono ?_
                rintro e0 w5 ⟨rfl, hb⟩
                have Y5 := hide (((unhide Y3).next hb).alloc (.cells #[.int .i64 sn, .int .i64 pc, .string regs, .string cells, .int .i64 clock, .int .i64 handler, .int .i64 back, .bool pending, .bool halted] 30))
                have B5 := hide (((unhide B3).trans (hb.mono (unhide B3).size)).alloc (Nat.le_trans (unhide B3).size hb.size) (.cells #[.int .i64 sn, .int .i64 pc, .string regs, .string cells, .int .i64 clock, .int .i64 handler, .int .i64 back, .bool pending, .bool halted] 30))
                clear hb cx fx cz fz
                go_upto_region 16 with fail
                generalize w5.alloc (.cells #[.int .i64 sn, .int .i64 pc, .string regs, .string cells, .int .i64 clock, .int .i64 handler, .int .i64 back, .bool pending, .bool halted] 30) = w6 at *
                obtain ⟨cy, fy, gy⟩ := unhide Y5
                clear gy
                have cq := (nine_boxR (unhide Y5) (.int .i64 0) (.int .i64 0) (.string ⟨#[]⟩) (.string ⟨#[]⟩) (.int .i64 0) (.int .i64 0) (.int .i64 0) (.bool false) (.bool false)).c
                go_wp2_with fail
                refine bodyPost_ret (v := .tuple #[.agg #[.int .i64 0, .int .i64 0, .string ⟨#[]⟩, .string ⟨#[]⟩, .int .i64 0, .int .i64 0, .int .i64 0, .bool false, .bool false], .bool false]) (by simp [results, Tryz.results63, go_sem, cq]) rfl ⟨rfl, ?_⟩
                repeat (refine Below.setCell ?_ (by simp) _)
                exact unhide B5
              · have hsn4 : sn < 10000 := by
                  rcases Int.lt_or_le sn 10000 with h | h
                  · exact h
                  · exact absurd (.inr h) hh
                have hhf : halted = false := by
                  cases halted with
                  | false => rfl
                  | true => exact absurd (.inl rfl) hh
                have hno : Hist.nextO p ⟨sn, pc, regs, cells, clock, handler, back, pending, halted⟩ c = some (Mach.next p ⟨sn, pc, regs, cells, clock, handler, back, pending, halted⟩ c) := by unfold Hist.nextO; rw [if_neg hh]
                have HU2 := hide ((unhide HUK).trans hno)
                have HN := hide (next_ref p (Mach.good_of hg) ⟨sn, pc, regs, cells, clock, handler, back, pending, halted⟩ c hleg hch hsn4 hhf)
                have hleg2 := Mach.next_legal (Mach.good_of hg) hleg hch hsn4
                have hnn := Mach.next_n p ⟨sn, pc, regs, cells, clock, handler, back, pending, halted⟩ c
                generalize Mach.next p ⟨sn, pc, regs, cells, clock, handler, back, pending, halted⟩ c = t at *
                generalize insOf p ⟨sn, pc, regs, cells, clock, handler, back, pending, halted⟩ c = ii at *
                obtain ⟨sn', pc', regs', cells', clock', handler', back', pending', halted'⟩ := t
                simp only at hnn
                have HNN := hide hnn
                have HK2 : Hid (e.s.n + ((k + 1 : Nat) : Int) ≤ n) := hide (by omega)
                have HLE := hide hleg2
                have HT3 := hide hsn4
                clear hh hno hnn hne1 hne2 hch hcall hhf hleg2 hsn4 hleg
                obtain ⟨ci, ct, cb⟩ := c
                simp only [chA] at Z3
                obtain ⟨cz, fz, gz⟩ := unhide Z3
                clear gz
                go_wp2_with fail
                refine (unhide HN _).mono ?_
                rintro e0 w5 ⟨rfl, hb⟩
                have X5 := hide (((unhide X3).next hb).alloc (.cells #[.int .i64 sn', .int .i64 pc', .string regs', .string cells', .int .i64 clock', .int .i64 handler', .int .i64 back', .bool pending', .bool halted'] 30))
                have Y5 := hide (((unhide Y3).next hb).alloc (.cells #[.int .i64 sn', .int .i64 pc', .string regs', .string cells', .int .i64 clock', .int .i64 handler', .int .i64 back', .bool pending', .bool halted'] 30))
                have V5 := hide (Box.new w5 #[.int .i64 sn', .int .i64 pc', .string regs', .string cells', .int .i64 clock', .int .i64 handler', .int .i64 back', .bool pending', .bool halted'] 30)
                have L5 := hide (((unhide L3).next hb).next ((Below.refl w5.heap.size w5).alloc (Nat.le_refl _) (.cells #[.int .i64 sn', .int .i64 pc', .string regs', .string cells', .int .i64 clock', .int .i64 handler', .int .i64 back', .bool pending', .bool halted'] 30)))
                have B5 := hide (((unhide B3).trans (hb.mono (unhide B3).size)).alloc (Nat.le_trans (unhide B3).size hb.size) (.cells #[.int .i64 sn', .int .i64 pc', .string regs', .string cells', .int .i64 clock', .int .i64 handler', .int .i64 back', .bool pending', .bool halted'] 30))
                have hlt5 := ((unhide X3).next hb).lt
                have hv1 : ¬ w5.heap.size = w.heap.size + 1 := by omega
                have hv2 : ¬ w.heap.size + 1 = w5.heap.size := by omega
                clear hb cx fx cz fz
                go_upto_region 16 with fail
                generalize w5.alloc (.cells #[.int .i64 sn', .int .i64 pc', .string regs', .string cells', .int .i64 clock', .int .i64 handler', .int .i64 back', .bool pending', .bool halted'] 30) = w6 at *
                obtain ⟨cx, fx, gx⟩ := unhide X5
                obtain ⟨cv, fv', gv⟩ := unhide V5
                clear gx gv
                have X6 := hide (nine_boxR (unhide X5) (.int .i64 sn') (.int .i64 pc') (.string regs') (.string cells') (.int .i64 clock') (.int .i64 handler') (.int .i64 back') (.bool pending') (.bool halted'))
                go_wp2_with fail
                go_roundw
                case rel =>
                  refine ⟨k + 1, ⟨sn', pc', regs', cells', clock', handler', back', pending', halted'⟩, unhide HK2, unhide HU2, unhide HLE, unhide X6, ?_, ?_, hbb, ?_⟩
                  · repeat (refine Box.off ?_ (by simp) _)
                    exact unhide Y5
                  · refine (unhide L5).keep (o := [w.heap.size + 1]) ?_ (by simp; omega)
                    repeat (refine Keeps.setCell ?_ (by simp) _)
                    exact Keeps.refl _ _
                  · repeat (refine Below.setCell ?_ (by simp) _)
                    exact unhide B5
                case measure =>
                  rw [leftAt_box (unhide X6) (k := .i64) (x := sn') rfl, leftAt_box (unhide X1) (k := .i64) (x := sn) rfl, unhide HNN]
                  omega
        · have HST : Hist.stood p l n = Hist.up p (l.drop (f + 1)) e.s (n - e.s.n).toNat := by
            unfold Hist.stood
            rw [← unhide HFR] at *
            rw [show l[f]? = some e from by rw [unhide HFR]; exact unhide HE]
          have hkk : (n - e.s.n).toNat = k := by omega
          rw [hkk, unhide HUP] at HST
          have hrr := unhide HRS
          rw [HST] at hrr
          simp only [Prod.mk.injEq] at hrr
          obtain ⟨rfl, rfl⟩ := hrr
          clear HST hkk hsn hk
          obtain ⟨sn, pc, regs, cells, clock, handler, back, pending, halted⟩ := rs
          simp only at hlt2
          simp only [stA] at cx
          obtain ⟨cy, fy, gy⟩ := unhide Y1
          clear gy
          have cq := (nine_boxR (unhide Y1) (.int .i64 sn) (.int .i64 pc) (.string regs) (.string cells) (.int .i64 clock) (.int .i64 handler) (.int .i64 back) (.bool pending) (.bool halted)).c
          go_wp2_with fail
          refine bodyPost_ret (v := .tuple #[.agg #[.int .i64 sn, .int .i64 pc, .string regs, .string cells, .int .i64 clock, .int .i64 handler, .int .i64 back, .bool pending, .bool halted], .bool true]) (by simp [results, Tryz.results63, go_sem, cq]) rfl ⟨rfl, ?_⟩
          repeat (refine Below.setCell ?_ (by simp) _)
          exact unhide B1
end Go.Proofs.YtcmoffiigpchiaaGreat
