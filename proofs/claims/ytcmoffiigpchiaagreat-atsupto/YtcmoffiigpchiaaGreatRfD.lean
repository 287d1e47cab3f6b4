import Derived.Test.YtcmoffiigpchiaaGreatHsC
import Derived.Test.YtcmoffiigpchiaaGreatRfC
import Derived.BigQuiet
namespace Go.Proofs.YtcmoffiigpchiaaGreat
open Go.RowKit

theorem infoEntry : (Tryz.prog.info? 87).map (fun i => (i.zero, i.size, i.bytes)) = some (some (.agg #[.bool false, .int .i64 0, .int .i64 0, .int .i64 0, .string ⟨#[]⟩, .string ⟨#[]⟩, .int .i64 0, .int .i64 0, .int .i64 0, .bool false, .bool false, .int .i64 0, .int .i64 0, .bool false]), 14, 120) := by kernel_rfl
theorem ecells_length (e : Hist.En) : e.ecells.length = 14 := rfl
theorem one_e (e : Hist.En) : ∀ u ∈ e.ecells, u.oneCell' = true := by
  intro u hu
  simp [Hist.En.ecells] at hu
  rcases hu with rfl | rfl | rfl | rfl | rfl | rfl | rfl | rfl | rfl | rfl | rfl | rfl | rfl | rfl <;> rfl
/-- The document's run, as it lies. -/
def ERow (w wr : World) (v : Value) (l : List Hist.En) : Prop := wr.ownsRow w.heap.size 87 14 v l.length (rowOf Hist.En.ecells l) ∧ Below w.heap.size w wr ∧ (l = [] → v = .slice none 0 0)
theorem ERow.made (w : World) : ERow w w (.slice none 0 0) [] := ⟨⟨by simp [rowOf], .inl ⟨rfl, rfl⟩⟩, Below.refl _ _, fun _ => rfl⟩
theorem ERow.some {w wr : World} {v : Value} {l : List Hist.En} (h : ERow w wr v l) (hl : l ≠ []) : ∃ g cap, v = .slice (some ⟨g, 0, none⟩) l.length cap := by
  obtain ⟨⟨_, hv⟩, _, _⟩ := h
  rcases hv with ⟨_, h0⟩ | ⟨g, cap, cur, hv, _⟩
  · exact absurd (List.eq_nil_of_length_eq_zero h0) hl
  · exact ⟨g, cap, hv⟩
theorem own_nextV {w wr w1 : World} {T : TypeId} {k n : Nat} {v : Value} {xs : List Value} (h : wr.ownsRow w.heap.size T k v n xs) (hb : Below wr.heap.size wr w1) : w1.ownsRow w.heap.size T k v n xs := by
  have h' := h
  obtain ⟨hl, hv⟩ := h
  refine ⟨hl, ?_⟩
  rcases hv with hv | ⟨g2, c2, cur, hv, h0, hgg, a1, a2, a3, a4⟩
  · exact .inl hv
  · subst hv
    exact .inr ⟨g2, c2, cur, rfl, h0, by rw [hb.block g2 (h'.lt g2 rfl).2]; exact hgg, a1, a2, a3, a4⟩
theorem ERow.next {w wr w1 : World} {v : Value} {l : List Hist.En} (h : ERow w wr v l) (hb : Below wr.heap.size wr w1) : ERow w w1 v l :=
  ⟨own_nextV h.1 hb, h.2.1.trans (hb.mono h.2.1.size), h.2.2⟩
theorem ERow.drewN {w wr : World} {v : Value} {l : List Hist.En} (h : ERow w wr v l) (n : Nat) : ERow w (wr.drewN n) v l := ⟨h.1, bel_drewN h.2.1 n, h.2.2⟩
theorem ERow.snoc {w wr w1 : World} {v v' : Value} {l : List Hist.En} {e : Hist.En} {o : Obj} (h : ERow w wr v l)
    (h1 : w1.ownsRow w.heap.size 87 14 v' (l.length + 1) (rowOf Hist.En.ecells l ++ e.ecells)) (h2 : (wr.alloc o).grownBy w1 v.ownBlock) : ERow w w1 v' (l ++ [e]) := by
  have hb := h.2.1
  have hbel : Below w.heap.size w w1 := (hb.alloc hb.size o).grown h2 (by have := hb.size; simp; omega) (fun k hk => by
    have := (h.1.lt k hk)
    omega)
  have hl : (l ++ [e]).length = l.length + 1 := by simp
  exact ⟨by rw [hl, rowOf_snoc]; exact h1, hbel, fun h => by simp at h⟩
namespace Hist
/-- The number that must come. -/
def comes (l : List En) : Nat := match l.getLast? with
  | some a => (a.k + 1) % 65536
  | none => 0
theorem rawE_k (t : ByteArray) : (rawE t).k = numOf t := by
  unfold rawE
  split <;> rfl
end Hist

set_option maxRecDepth 100000 in
set_option maxHeartbeats 6000000 in
theorem run_ref (t : ByteArray) (ht : t.size ≤ 1048576) (w : World) :
    Calls Tryz.prog 59 #[.string t] w fun e w' => ∃ v, e = .returned v ∧ ERow w w' v (Hist.run t) := by
  obtain ⟨i0, hi, hz0, hz1, hz2⟩ := info_parts infoEntry
  go_enter Tryz.func59, Tryz.ntmps59
  go_wp2_with fail
  go_loopw [3, 4, 5] (fun r nb x wr => ∃ l : List Hist.En, x = .int .i64 ((40 * l.length : Nat) : Int) ∧ nb = .int .i64 (Hist.comes l : Nat) ∧ 40 * l.length ≤ t.size ∧ Hist.run t = Hist.runs t (t.size / 40 - l.length) l.length l ∧ Hist.IsRun l ∧ ERow w wr r l) (fun _ _ x _ => t.size + 40 - (intOf x).toNat)
  case atStart => exact ⟨[], rfl, rfl, by simp, rfl, Hist.isRun_nil, ERow.made w⟩
  case round =>
    obtain ⟨l, rfl, rfl, hle, hrun, hR, hE⟩ := hrel
    have HE := hide hE
    have HR := hide hR
    clear hE hR
    by_cases h40 : 40 * l.length + 40 ≤ t.size
    · obtain ⟨f, hf⟩ : ∃ f, t.size / 40 - l.length = f + 1 := ⟨t.size / 40 - l.length - 1, by omega⟩
      rw [hf] at hrun
      have hsz : (t.extract (40 * l.length) (40 * l.length + 40)).size = 40 := by rw [size_ex t h40]; omega
      have HEn := hide (entry_ref _ hsz)
      have HHi := hide (high_ref ((t.extract (40 * l.length) (40 * l.length + 40)).extract 1 3) (by rw [size_ex _ (by omega)]; omega))
      rw [show Frame.highN ((t.extract (40 * l.length) (40 * l.length + 40)).extract 1 3) = Hist.numOf (t.extract (40 * l.length) (40 * l.length + 40)) from rfl, ← Hist.rawE_k] at HHi
      have hraw := fun e (h : Hist.read (t.extract (40 * l.length) (40 * l.length + 40)) = some e) => Hist.rawE_read _ h
      have hle2 : 40 * (l.length + 1) ≤ t.size := by omega
      have hf2 : t.size / 40 - (l.length + 1) = f := by omega
      have hl6 : l.length < 1000000 := by omega
      have HL7 := hide hl6
      clear hf hle
      cases hrd : Hist.read (t.extract (40 * l.length) (40 * l.length + 40)) with
      | none =>
        rw [Hist.runs_none t f l.length l hrd] at hrun
        rw [hrd] at HEn
        have HRN := hide hrun
        clear hrun hrd hraw
        generalize Hist.rawE (t.extract (40 * l.length) (40 * l.length + 40)) = e at *
        obtain ⟨est, ek, en, ⟨esn, epc, eregs, ecells, eclock, ehandler, eback, epending, ehalted⟩, ⟨einput, eticks, einterrupt⟩⟩ := e
        simp only [Hist.En.eval, Hist.En.ecells] at HEn HHi
        go_wp2_with fail
        refine (unhide HEn _).mono ?_
        rintro e0 w1 ⟨rfl, hb⟩
        have HB1 := hide hb
        clear hb
        go_wp2_with fail
        refine (unhide HHi _).mono ?_
        rintro e0 w2 ⟨rfl, hw⟩
        obtain rfl := hw.symm
        go_upto_region 9 with fail
        have X1 := hide (Box.new w1 #[.bool est, .int .i64 en, .int .i64 esn, .int .i64 epc, .string eregs, .string ecells, .int .i64 eclock, .int .i64 ehandler, .int .i64 eback, .bool epending, .bool ehalted, .int .i64 einput, .int .i64 eticks, .bool einterrupt] 87)
        have E1 := hide (((unhide HE).next (unhide HB1)).next ((Below.refl w1.heap.size w1).alloc (Nat.le_refl _) (.cells #[.bool est, .int .i64 en, .int .i64 esn, .int .i64 epc, .string eregs, .string ecells, .int .i64 eclock, .int .i64 ehandler, .int .i64 eback, .bool epending, .bool ehalted, .int .i64 einput, .int .i64 eticks, .bool einterrupt] 87)))
        generalize w1.alloc (.cells #[.bool est, .int .i64 en, .int .i64 esn, .int .i64 epc, .string eregs, .string ecells, .int .i64 eclock, .int .i64 ehandler, .int .i64 eback, .bool epending, .bool ehalted, .int .i64 einput, .int .i64 eticks, .bool einterrupt] 87) = wy at *
        obtain ⟨cx, fx, gx⟩ := unhide X1
        clear gx
        go_quiet (fail)
        go_wp2_with fail
        go_ret
        refine ⟨_, rfl, ?_⟩
        rw [unhide HRN]
        exact (unhide E1).drewN _
      | some e =>
        have hew := hraw e hrd
        have hok := Hist.read_ok hsz hrd
        rw [hrd] at HEn
        rw [← hew] at HEn HHi
        clear hraw hew
        cases hgo : Hist.goesOn l e with
        | false =>
          rw [Hist.runs_stop t f l.length l e hrd hgo] at hrun
          have HRN := hide hrun
          clear hrun hrd
          cases hla : l.getLast? with
          | none =>
            have hnil : l = [] := by simpa using hla
            subst hnil
            have hst : e.st = false := by simpa [Hist.goesOn] using hgo
            clear hgo hla hok
            obtain ⟨est, ek, en, ⟨esn, epc, eregs, ecells, eclock, ehandler, eback, epending, ehalted⟩, ⟨einput, eticks, einterrupt⟩⟩ := e
            simp only at hst
            subst hst
            simp only [Hist.En.eval, Hist.En.ecells, List.length_nil, Nat.mul_zero, Nat.zero_add] at *
            go_wp2_with fail
            refine (unhide HEn _).mono ?_
            rintro e0 w1 ⟨rfl, hb⟩
            have HB1 := hide hb
            clear hb
            go_wp2_with fail
            refine (unhide HHi _).mono ?_
            rintro e0 w2 ⟨rfl, hw⟩
            obtain rfl := hw.symm
            go_upto_region 9 with fail
            have X1 := hide (Box.new w1 #[.bool false, .int .i64 en, .int .i64 esn, .int .i64 epc, .string eregs, .string ecells, .int .i64 eclock, .int .i64 ehandler, .int .i64 eback, .bool epending, .bool ehalted, .int .i64 einput, .int .i64 eticks, .bool einterrupt] 87)
            have E1 := hide (((unhide HE).next (unhide HB1)).next ((Below.refl w1.heap.size w1).alloc (Nat.le_refl _) (.cells #[.bool false, .int .i64 en, .int .i64 esn, .int .i64 epc, .string eregs, .string ecells, .int .i64 eclock, .int .i64 ehandler, .int .i64 eback, .bool epending, .bool ehalted, .int .i64 einput, .int .i64 eticks, .bool einterrupt] 87)))
            generalize w1.alloc (.cells #[.bool false, .int .i64 en, .int .i64 esn, .int .i64 epc, .string eregs, .string ecells, .int .i64 eclock, .int .i64 ehandler, .int .i64 eback, .bool epending, .bool ehalted, .int .i64 einput, .int .i64 eticks, .bool einterrupt] 87) = wy at *
            obtain ⟨cx, fx, gx⟩ := unhide X1
            clear gx
            go_quiet (fail)
            go_wp2_with fail
            go_ret
            refine ⟨_, rfl, ?_⟩
            rw [unhide HRN]
            exact (unhide E1).drewN _

          | some a =>
            have hne : l ≠ [] := by intro h; rw [h] at hla; simp at hla
            obtain ⟨g, cap, rfl⟩ := (unhide HE).some hne
            obtain ⟨n, hn⟩ : ∃ n, l.length = n + 1 := ⟨l.length - 1, by have := List.length_pos_iff.2 hne; omega⟩
            have hia : l[n]? = some a := by
              have := hla
              rw [List.getLast?_eq_getElem?, hn] at this
              simpa using this
            have hao := (unhide HR).ok a (List.mem_of_getElem? hia)
            have HT := hide (to_ref a hao.n)
            have hcl : Hist.comes l = (a.k + 1) % 65536 := by unfold Hist.comes; rw [hla]
            have hgl := goesOn_last (e := e) hla
            rw [hgo] at hgl
            have d1 : ((((40 * l.length : Nat) : Int)) == 0) = false := by
              rw [beq_eq_false_iff_ne]
              omega
            have d2 : (0 : Int) < ((40 * l.length : Nat) : Int) := by omega
            have RG := hide (row_range ecells_length (unhide HE).1 hia)
            have hgw := ((unhide HE).1.lt g rfl).2
            simp only [hn] at HEn HHi HRN hle2 hf2 hl6 h40 hsz d1 d2 HE ⊢
            have HNN := hide hn
            clear hn
            have d3 : (40 * ((n : Int) + 1) == 0) = false := by rw [beq_eq_false_iff_ne]; omega
            have d4 : (0 : Int) < 40 * ((n : Int) + 1) := by omega
            have d5 : ¬ 40 * ((n : Int) + 1) = 0 := by omega
            have d6 := i64_wrap_nat n (by omega)
            have d7 : (n : Int) < (n : Int) + 1 := by omega
            by_cases hk : e.k = (a.k + 1) % 65536
            · have hto : ((e.n : Nat) : Int) < ((a.to : Nat) : Int) := by
                have : ¬ a.to ≤ e.n := by simpa [hk] using hgl
                omega
              have dk : (((e.k : Nat) : Int) != ((Hist.comes l : Nat) : Int)) = false := by rw [hcl, hk]; simp
              clear hgo hgl hk hcl hok hla hia hao hne
              generalize ((a.to : Nat) : Int) = ato at *
              generalize ((Hist.comes l : Nat) : Int) = cml at *
              obtain ⟨est, ek, en, ⟨esn, epc, eregs, ecells, eclock, ehandler, eback, epending, ehalted⟩, ⟨einput, eticks, einterrupt⟩⟩ := e
              obtain ⟨ast, ak, an, ⟨asn, apc, aregs, acells, aclock, ahandler, aback, apending, ahalted⟩, ⟨ainput, aticks, ainterrupt⟩⟩ := a
              simp only [Hist.En.eval, Hist.En.ecells] at HEn HHi HT RG hto dk
              go_wp2_with fail
              refine (unhide HEn _).mono ?_
              rintro e0 w1 ⟨rfl, hb⟩
              have HB1 := hide hb
              clear hb
              go_wp2_with fail
              refine (unhide HHi _).mono ?_
              rintro e0 w2 ⟨rfl, hw⟩
              obtain rfl := hw.symm
              go_upto_region 9 with fail
              have X1 := hide (Box.new w1 #[.bool est, .int .i64 en, .int .i64 esn, .int .i64 epc, .string eregs, .string ecells, .int .i64 eclock, .int .i64 ehandler, .int .i64 eback, .bool epending, .bool ehalted, .int .i64 einput, .int .i64 eticks, .bool einterrupt] 87)
              have E1 := hide (((unhide HE).next (unhide HB1)).next ((Below.refl w1.heap.size w1).alloc (Nat.le_refl _) (.cells #[.bool est, .int .i64 en, .int .i64 esn, .int .i64 epc, .string eregs, .string ecells, .int .i64 eclock, .int .i64 ehandler, .int .i64 eback, .bool epending, .bool ehalted, .int .i64 einput, .int .i64 eticks, .bool einterrupt] 87)))
              have BY := hide (bel_then (unhide HB1) ((Below.refl w1.heap.size w1).alloc (Nat.le_refl _) (.cells #[.bool est, .int .i64 en, .int .i64 esn, .int .i64 epc, .string eregs, .string ecells, .int .i64 eclock, .int .i64 ehandler, .int .i64 eback, .bool epending, .bool ehalted, .int .i64 einput, .int .i64 eticks, .bool einterrupt] 87)))
              generalize w1.alloc (.cells #[.bool est, .int .i64 en, .int .i64 esn, .int .i64 epc, .string eregs, .string ecells, .int .i64 eclock, .int .i64 ehandler, .int .i64 eback, .bool epending, .bool ehalted, .int .i64 einput, .int .i64 eticks, .bool einterrupt] 87) = wy at *
              obtain ⟨cx, fx, gx⟩ := unhide X1
              have RY := hide (rangeAt_below (unhide BY) hgw (unhide RG))
              have hgy : g < wy.heap.size := Nat.lt_of_lt_of_le hgw (unhide BY).size
              have r0 := (unhide RY) 0 _ rfl
              rw [Nat.add_zero] at r0
              have r1 := (unhide RY) 1 _ rfl
              have r2 := (unhide RY) 2 _ rfl
              have r3 := (unhide RY) 3 _ rfl
              have r4 := (unhide RY) 4 _ rfl
              have r5 := (unhide RY) 5 _ rfl
              have r6 := (unhide RY) 6 _ rfl
              have r7 := (unhide RY) 7 _ rfl
              have r8 := (unhide RY) 8 _ rfl
              have r9 := (unhide RY) 9 _ rfl
              have r10 := (unhide RY) 10 _ rfl
              have r11 := (unhide RY) 11 _ rfl
              have r12 := (unhide RY) 12 _ rfl
              have r13 := (unhide RY) 13 _ rfl
              clear gx
              refine region_last2 31 (S := (fun u => u.cell? ⟨w1.heap.size, 1, none⟩ = some (.int .i64 en) ∧ u.cell? ⟨g, n * 14, none⟩ = some (.bool ast) ∧ u.cell? ⟨g, n * 14 + 1, none⟩ = some (.int .i64 an) ∧ u.cell? ⟨g, n * 14 + 2, none⟩ = some (.int .i64 asn) ∧ u.cell? ⟨g, n * 14 + 3, none⟩ = some (.int .i64 apc) ∧ u.cell? ⟨g, n * 14 + 4, none⟩ = some (.string aregs) ∧ u.cell? ⟨g, n * 14 + 5, none⟩ = some (.string acells) ∧ u.cell? ⟨g, n * 14 + 6, none⟩ = some (.int .i64 aclock) ∧ u.cell? ⟨g, n * 14 + 7, none⟩ = some (.int .i64 ahandler) ∧ u.cell? ⟨g, n * 14 + 8, none⟩ = some (.int .i64 aback) ∧ u.cell? ⟨g, n * 14 + 9, none⟩ = some (.bool apending) ∧ u.cell? ⟨g, n * 14 + 10, none⟩ = some (.bool ahalted) ∧ u.cell? ⟨g, n * 14 + 11, none⟩ = some (.int .i64 ainput) ∧ u.cell? ⟨g, n * 14 + 12, none⟩ = some (.int .i64 aticks) ∧ u.cell? ⟨g, n * 14 + 13, none⟩ = some (.bool ainterrupt))) _ rfl rfl (by kernel_rfl) (by kernel_rfl) (by first | go_keep | (go_simp; done)) (fun hHeld => ?_)
              simp only [List.pop_toArray, List.dropLast_cons_cons, List.dropLast_singleton]
              refine wpAnyH_take (i := 0) (v := ?_) rfl (by kernel_rfl) (by kernel_rfl) (by kernel_rfl) (fun _ _ _ h => h) (Or.inl ⟨by rfl, ?hy⟩) hHeld ?_
              case hy =>
                simp only [List.getElem_toArray, List.getElem_cons_zero]
                intro w' hSw
                (try dsimp only at hSw)
                go_simp
                with_reducible rfl
              simp only [List.getElem_toArray, List.getElem_cons_zero, Act.put, List.setIfInBounds_toArray, List.set_cons_zero, List.set_cons_succ]
              refine wpAnyH_take (i := 1) (v := ?_) rfl (by kernel_rfl) (by kernel_rfl) (by kernel_rfl) (fun _ _ _ h => h) (Or.inl ⟨by rfl, ?hy⟩) hHeld ?_
              case hy =>
                simp only [List.getElem_toArray, List.getElem_cons_succ, List.getElem_cons_zero]
                intro w' hSw
                (try dsimp only at hSw)
                go_simp
                with_reducible rfl
              simp only [List.getElem_toArray, List.getElem_cons_succ, List.getElem_cons_zero, Act.put, List.setIfInBounds_toArray, List.set_cons_zero, List.set_cons_succ]
              refine wpAnyH_take (i := 2) (v := ?_) rfl (by kernel_rfl) (by kernel_rfl) (by kernel_rfl) (fun _ _ _ h => h) (Or.inl ⟨by rfl, ?hy⟩) hHeld ?_
              case hy =>
                simp only [List.getElem_toArray, List.getElem_cons_succ, List.getElem_cons_zero]
                intro w' hSw
                (try dsimp only at hSw)
                go_simp
                with_reducible rfl
              simp only [List.getElem_toArray, List.getElem_cons_succ, List.getElem_cons_zero, Act.put, List.setIfInBounds_toArray, List.set_cons_zero, List.set_cons_succ]
              refine wpAnyH_take (i := 3) (v := ?_) rfl (by kernel_rfl) (by kernel_rfl) (by kernel_rfl) (fun _ _ _ h => h) (Or.inl ⟨by rfl, ?hy⟩) hHeld ?_
              case hy =>
                simp only [List.getElem_toArray, List.getElem_cons_succ, List.getElem_cons_zero]
                intro w' hSw
                (try dsimp only at hSw)
                go_simp
                with_reducible rfl
              simp only [List.getElem_toArray, List.getElem_cons_succ, List.getElem_cons_zero, Act.put, List.setIfInBounds_toArray, List.set_cons_zero, List.set_cons_succ]
              refine wpAnyH_take (i := 4) (v := ?_) rfl (by kernel_rfl) (by kernel_rfl) (by kernel_rfl) (fun _ _ _ h => h) (Or.inl ⟨by rfl, ?hy⟩) hHeld ?_
              case hy =>
                simp only [List.getElem_toArray, List.getElem_cons_succ, List.getElem_cons_zero]
                intro w' hSw
                (try dsimp only at hSw)
                go_simp
                with_reducible rfl
              simp only [List.getElem_toArray, List.getElem_cons_succ, List.getElem_cons_zero, Act.put, List.setIfInBounds_toArray, List.set_cons_zero, List.set_cons_succ]
              refine wpAnyH_take (i := 5) (v := ?_) rfl (by kernel_rfl) (by kernel_rfl) (by kernel_rfl) (fun _ _ _ h => h) (Or.inl ⟨by rfl, ?hy⟩) hHeld ?_
              case hy =>
                simp only [List.getElem_toArray, List.getElem_cons_succ, List.getElem_cons_zero]
                intro w' hSw
                (try dsimp only at hSw)
                go_simp
                with_reducible rfl
              simp only [List.getElem_toArray, List.getElem_cons_succ, List.getElem_cons_zero, Act.put, List.setIfInBounds_toArray, List.set_cons_zero, List.set_cons_succ]
              refine wpAnyH_take (i := 6) (v := undef) rfl (by kernel_rfl) (by kernel_rfl) (by kernel_rfl) (fun _ _ _ h => h) (Or.inr ⟨by rfl, rfl⟩) hHeld ?_
              simp only [List.getElem_toArray, List.getElem_cons_succ, List.getElem_cons_zero, Act.put, List.setIfInBounds_toArray, List.set_cons_zero, List.set_cons_succ]
              refine wpAnyH_take (i := 7) (v := undef) rfl (by kernel_rfl) (by kernel_rfl) (by kernel_rfl) (fun _ _ _ h => h) (Or.inr ⟨by rfl, rfl⟩) hHeld ?_
              simp only [List.getElem_toArray, List.getElem_cons_succ, List.getElem_cons_zero, Act.put, List.setIfInBounds_toArray, List.set_cons_zero, List.set_cons_succ]
              refine wpAnyH_take (i := 8) (v := undef) rfl (by kernel_rfl) (by kernel_rfl) (by kernel_rfl) (fun _ _ _ h => h) (Or.inr ⟨by rfl, rfl⟩) hHeld ?_
              simp only [List.getElem_toArray, List.getElem_cons_succ, List.getElem_cons_zero, Act.put, List.setIfInBounds_toArray, List.set_cons_zero, List.set_cons_succ]
              refine wpAnyH_take (i := 9) (v := ?_) rfl (by kernel_rfl) (by kernel_rfl) (by kernel_rfl) (fun _ _ _ h => h) (Or.inl ⟨by rfl, ?hy⟩) hHeld ?_
              case hy =>
                simp only [List.getElem_toArray, List.getElem_cons_succ, List.getElem_cons_zero]
                intro w' hSw
                (try dsimp only at hSw)
                go_simp
                with_reducible rfl
              simp only [List.getElem_toArray, List.getElem_cons_succ, List.getElem_cons_zero, Act.put, List.setIfInBounds_toArray, List.set_cons_zero, List.set_cons_succ]
              refine wpAnyH_take (i := 10) (v := ?_) rfl (by kernel_rfl) (by kernel_rfl) (by kernel_rfl) (fun _ _ _ h => h) (Or.inl ⟨by rfl, ?hy⟩) hHeld ?_
              case hy =>
                simp only [List.getElem_toArray, List.getElem_cons_succ, List.getElem_cons_zero]
                intro w' hSw
                (try dsimp only at hSw)
                go_simp
                with_reducible rfl
              simp only [List.getElem_toArray, List.getElem_cons_succ, List.getElem_cons_zero, Act.put, List.setIfInBounds_toArray, List.set_cons_zero, List.set_cons_succ]
              refine wpAnyH_take (i := 11) (v := ?_) rfl (by kernel_rfl) (by kernel_rfl) (by kernel_rfl) (fun _ _ _ h => h) (Or.inl ⟨by rfl, ?hy⟩) hHeld ?_
              case hy =>
                simp only [List.getElem_toArray, List.getElem_cons_succ, List.getElem_cons_zero]
                intro w' hSw
                (try dsimp only at hSw)
                go_simp
                with_reducible rfl
              simp only [List.getElem_toArray, List.getElem_cons_succ, List.getElem_cons_zero, Act.put, List.setIfInBounds_toArray, List.set_cons_zero, List.set_cons_succ]
              refine wpAnyH_take (i := 12) (v := ?_) rfl (by kernel_rfl) (by kernel_rfl) (by kernel_rfl) (fun _ _ _ h => h) (Or.inl ⟨by rfl, ?hy⟩) hHeld ?_
              case hy =>
                simp only [List.getElem_toArray, List.getElem_cons_succ, List.getElem_cons_zero]
                intro w' hSw
                (try dsimp only at hSw)
                go_simp
                with_reducible rfl
              simp only [List.getElem_toArray, List.getElem_cons_succ, List.getElem_cons_zero, Act.put, List.setIfInBounds_toArray, List.set_cons_zero, List.set_cons_succ]
              refine wpAnyH_take (i := 13) (v := ?_) rfl (by kernel_rfl) (by kernel_rfl) (by kernel_rfl) (fun _ _ _ h => h) (Or.inl ⟨by rfl, ?hy⟩) hHeld ?_
              case hy =>
                simp only [List.getElem_toArray, List.getElem_cons_succ, List.getElem_cons_zero]
                intro w' hSw
                (try dsimp only at hSw)
                go_simp
                with_reducible rfl
              simp only [List.getElem_toArray, List.getElem_cons_succ, List.getElem_cons_zero, Act.put, List.setIfInBounds_toArray, List.set_cons_zero, List.set_cons_succ]
              refine wpAnyH_take (i := 14) (v := ?_) rfl (by kernel_rfl) (by kernel_rfl) (by kernel_rfl) (fun _ _ _ h => h) (Or.inl ⟨by rfl, ?hy⟩) hHeld ?_
              case hy =>
                simp only [List.getElem_toArray, List.getElem_cons_succ, List.getElem_cons_zero]
                intro w' hSw
                (try dsimp only at hSw)
                go_simp
                with_reducible rfl
              simp only [List.getElem_toArray, List.getElem_cons_succ, List.getElem_cons_zero, Act.put, List.setIfInBounds_toArray, List.set_cons_zero, List.set_cons_succ]
              refine wpAnyH_take (i := 15) (v := ?_) rfl (by kernel_rfl) (by kernel_rfl) (by kernel_rfl) (fun _ _ _ h => h) (Or.inl ⟨by rfl, ?hy⟩) hHeld ?_
              case hy =>
                simp only [List.getElem_toArray, List.getElem_cons_succ, List.getElem_cons_zero]
                intro w' hSw
                (try dsimp only at hSw)
                go_simp
                with_reducible rfl
              simp only [List.getElem_toArray, List.getElem_cons_succ, List.getElem_cons_zero, Act.put, List.setIfInBounds_toArray, List.set_cons_zero, List.set_cons_succ]
              refine wpAnyH_take (i := 16) (v := ?_) rfl (by kernel_rfl) (by kernel_rfl) (by kernel_rfl) (fun _ _ _ h => h) (Or.inl ⟨by rfl, ?hy⟩) hHeld ?_
              case hy =>
                simp only [List.getElem_toArray, List.getElem_cons_succ, List.getElem_cons_zero]
                intro w' hSw
                (try dsimp only at hSw)
                go_simp
                with_reducible rfl
              simp only [List.getElem_toArray, List.getElem_cons_succ, List.getElem_cons_zero, Act.put, List.setIfInBounds_toArray, List.set_cons_zero, List.set_cons_succ]
              refine wpAnyH_take (i := 17) (v := ?_) rfl (by kernel_rfl) (by kernel_rfl) (by kernel_rfl) (fun _ _ _ h => h) (Or.inl ⟨by rfl, ?hy⟩) hHeld ?_
              case hy =>
                simp only [List.getElem_toArray, List.getElem_cons_succ, List.getElem_cons_zero]
                intro w' hSw
                (try dsimp only at hSw)
                go_simp
                with_reducible rfl
              simp only [List.getElem_toArray, List.getElem_cons_succ, List.getElem_cons_zero, Act.put, List.setIfInBounds_toArray, List.set_cons_zero, List.set_cons_succ]
              refine wpAnyH_take (i := 18) (v := ?_) rfl (by kernel_rfl) (by kernel_rfl) (by kernel_rfl) (fun _ _ _ h => h) (Or.inl ⟨by rfl, ?hy⟩) hHeld ?_
              case hy =>
                simp only [List.getElem_toArray, List.getElem_cons_succ, List.getElem_cons_zero]
                intro w' hSw
                (try dsimp only at hSw)
                go_simp
                with_reducible rfl
              simp only [List.getElem_toArray, List.getElem_cons_succ, List.getElem_cons_zero, Act.put, List.setIfInBounds_toArray, List.set_cons_zero, List.set_cons_succ]
              refine wpAnyH_take (i := 19) (v := ?_) rfl (by kernel_rfl) (by kernel_rfl) (by kernel_rfl) (fun _ _ _ h => h) (Or.inl ⟨by rfl, ?hy⟩) hHeld ?_
              case hy =>
                simp only [List.getElem_toArray, List.getElem_cons_succ, List.getElem_cons_zero]
                intro w' hSw
                (try dsimp only at hSw)
                go_simp
                with_reducible rfl
              simp only [List.getElem_toArray, List.getElem_cons_succ, List.getElem_cons_zero, Act.put, List.setIfInBounds_toArray, List.set_cons_zero, List.set_cons_succ]
              refine wpAnyH_take (i := 20) (v := ?_) rfl (by kernel_rfl) (by kernel_rfl) (by kernel_rfl) (fun _ _ _ h => h) (Or.inl ⟨by rfl, ?hy⟩) hHeld ?_
              case hy =>
                simp only [List.getElem_toArray, List.getElem_cons_succ, List.getElem_cons_zero]
                intro w' hSw
                (try dsimp only at hSw)
                go_simp
                with_reducible rfl
              simp only [List.getElem_toArray, List.getElem_cons_succ, List.getElem_cons_zero, Act.put, List.setIfInBounds_toArray, List.set_cons_zero, List.set_cons_succ]
              refine wpAnyH_take (i := 21) (v := ?_) rfl (by kernel_rfl) (by kernel_rfl) (by kernel_rfl) (fun _ _ _ h => h) (Or.inl ⟨by rfl, ?hy⟩) hHeld ?_
              case hy =>
                simp only [List.getElem_toArray, List.getElem_cons_succ, List.getElem_cons_zero]
                intro w' hSw
                (try dsimp only at hSw)
                go_simp
                with_reducible rfl
              simp only [List.getElem_toArray, List.getElem_cons_succ, List.getElem_cons_zero, Act.put, List.setIfInBounds_toArray, List.set_cons_zero, List.set_cons_succ]
              refine wpAnyH_take (i := 22) (v := ?_) rfl (by kernel_rfl) (by kernel_rfl) (by kernel_rfl) (fun _ _ _ h => h) (Or.inl ⟨by rfl, ?hy⟩) hHeld ?_
              case hy =>
                simp only [List.getElem_toArray, List.getElem_cons_succ, List.getElem_cons_zero]
                intro w' hSw
                (try dsimp only at hSw)
                go_simp
                with_reducible rfl
              simp only [List.getElem_toArray, List.getElem_cons_succ, List.getElem_cons_zero, Act.put, List.setIfInBounds_toArray, List.set_cons_zero, List.set_cons_succ]
              refine wpAnyH_take (i := 23) (v := ?_) rfl (by kernel_rfl) (by kernel_rfl) (by kernel_rfl) (fun _ _ _ h => h) (Or.inl ⟨by rfl, ?hy⟩) hHeld ?_
              case hy =>
                simp only [List.getElem_toArray, List.getElem_cons_succ, List.getElem_cons_zero]
                intro w' hSw
                (try dsimp only at hSw)
                go_simp
                with_reducible rfl
              simp only [List.getElem_toArray, List.getElem_cons_succ, List.getElem_cons_zero, Act.put, List.setIfInBounds_toArray, List.set_cons_zero, List.set_cons_succ]
              refine wpAnyH_take (i := 24) (v := ?_) rfl (by kernel_rfl) (by kernel_rfl) (by kernel_rfl) (fun _ _ _ h => h) (Or.inl ⟨by rfl, ?hy⟩) hHeld ?_
              case hy =>
                simp only [List.getElem_toArray, List.getElem_cons_succ, List.getElem_cons_zero]
                intro w' hSw
                (try dsimp only at hSw)
                go_simp
                with_reducible rfl
              simp only [List.getElem_toArray, List.getElem_cons_succ, List.getElem_cons_zero, Act.put, List.setIfInBounds_toArray, List.set_cons_zero, List.set_cons_succ]
              refine wpAnyH_take (i := 25) (v := ?_) rfl (by kernel_rfl) (by kernel_rfl) (by kernel_rfl) (fun _ _ _ h => h) (Or.inl ⟨by rfl, ?hy⟩) hHeld ?_
              case hy =>
                simp only [List.getElem_toArray, List.getElem_cons_succ, List.getElem_cons_zero]
                intro w' hSw
                (try dsimp only at hSw)
                go_simp
                with_reducible rfl
              simp only [List.getElem_toArray, List.getElem_cons_succ, List.getElem_cons_zero, Act.put, List.setIfInBounds_toArray, List.set_cons_zero, List.set_cons_succ]
              refine wpAnyH_take (i := 26) (v := ?_) rfl (by kernel_rfl) (by kernel_rfl) (by kernel_rfl) (fun _ _ _ h => h) (Or.inl ⟨by rfl, ?hy⟩) hHeld ?_
              case hy =>
                simp only [List.getElem_toArray, List.getElem_cons_succ, List.getElem_cons_zero]
                intro w' hSw
                (try dsimp only at hSw)
                go_simp
                with_reducible rfl
              simp only [List.getElem_toArray, List.getElem_cons_succ, List.getElem_cons_zero, Act.put, List.setIfInBounds_toArray, List.set_cons_zero, List.set_cons_succ]
              refine wpAnyH_ready (rs := [27]) (by kernel_rfl) (by simp) ?_
              refine AllReadyH.cons rfl (fun K hK => ?_) AllReadyH.nil
              simp only [List.getElem_toArray, List.getElem_cons_succ, List.getElem_cons_zero]
              rw [if_pos (by rfl)]
              go_wp2_with (go_at_call 60; refine (unhide HT _).mono ?_; rintro e0 w3 ⟨rfl, hb⟩; have L3 := hide (bel_undrew hb); clear hb; have X3 := hide ((unhide X1).next (unhide L3)); have R3 := rangeAt_below (unhide L3) hgy (unhide RY); have r0' := R3 0 _ rfl; rw [Nat.add_zero] at r0'; have r1' := R3 1 _ rfl; have r2' := R3 2 _ rfl; have r3' := R3 3 _ rfl; have r4' := R3 4 _ rfl; have r5' := R3 5 _ rfl; have r6' := R3 6 _ rfl; have r7' := R3 7 _ rfl; have r8' := R3 8 _ rfl; have r9' := R3 9 _ rfl; have r10' := R3 10 _ rfl; have r11' := R3 11 _ rfl; have r12' := R3 12 _ rfl; have r13' := R3 13 _ rfl; clear R3; obtain ⟨cx3, fx3, gx3⟩ := unhide X3; clear gx3)
              refine hK.out _ _ (by first | go_keep | (go_simp; done)) (fun hH1 => ?_)
              clear hK K
              refine wpAnyH_take (i := 28) (v := ?_) rfl (by kernel_rfl) (by kernel_rfl) (by kernel_rfl) (fun _ _ _ h => h) (Or.inl ⟨by rfl, ?hy⟩) hH1 ?_
              case hy =>
                simp only [List.getElem_toArray, List.getElem_cons_succ, List.getElem_cons_zero]
                intro w' hSw
                (try dsimp only at hSw)
                go_simp
                with_reducible rfl
              simp only [List.getElem_toArray, List.getElem_cons_succ, List.getElem_cons_zero, Act.put, List.setIfInBounds_toArray, List.set_cons_zero, List.set_cons_succ]
              refine wpAnyH_take (i := 29) (v := ?_) rfl (by kernel_rfl) (by kernel_rfl) (by kernel_rfl) (fun _ _ _ h => h) (Or.inl ⟨by rfl, ?hy⟩) hH1 ?_
              case hy =>
                simp only [List.getElem_toArray, List.getElem_cons_succ, List.getElem_cons_zero]
                intro w' hSw
                (try dsimp only at hSw)
                go_simp
                with_reducible rfl
              simp only [List.getElem_toArray, List.getElem_cons_succ, List.getElem_cons_zero, Act.put, List.setIfInBounds_toArray, List.set_cons_zero, List.set_cons_succ]
              refine wpAnyH_take (i := 30) (v := ?_) rfl (by kernel_rfl) (by kernel_rfl) (by kernel_rfl) (fun _ _ _ h => h) (Or.inl ⟨by rfl, ?hy⟩) hH1 ?_
              case hy =>
                simp only [List.getElem_toArray, List.getElem_cons_succ, List.getElem_cons_zero]
                intro w' hSw
                (try dsimp only at hSw)
                go_simp
                with_reducible rfl
              simp only [List.getElem_toArray, List.getElem_cons_succ, List.getElem_cons_zero, Act.put, List.setIfInBounds_toArray, List.set_cons_zero, List.set_cons_succ]
              refine wpAnyH_done (by kernel_rfl) ?_ _
              refine last_step rfl (fun K hK => ?_)
              go_simp
              refine (unhide hK) _ _ ?_
              clear hK K
              go_wp2_with fail
              go_ret
              refine ⟨_, rfl, ?_⟩
              rw [unhide HRN]
              exact (unhide E1).next (unhide L3)
            · have dk : (((e.k : Nat) : Int) != ((Hist.comes l : Nat) : Int)) = true := by
                have : ¬ ((e.k : Nat) : Int) = ((Hist.comes l : Nat) : Int) := by rw [hcl]; omega
                simp [this]
              clear hgo hgl hk hcl hok hla hia hao hne HT RG
              generalize ((Hist.comes l : Nat) : Int) = cml at *
              obtain ⟨est, ek, en, ⟨esn, epc, eregs, ecells, eclock, ehandler, eback, epending, ehalted⟩, ⟨einput, eticks, einterrupt⟩⟩ := e
              simp only [Hist.En.eval, Hist.En.ecells] at HEn HHi dk
              go_wp2_with fail
              refine (unhide HEn _).mono ?_
              rintro e0 w1 ⟨rfl, hb⟩
              have HB1 := hide hb
              clear hb
              go_wp2_with fail
              refine (unhide HHi _).mono ?_
              rintro e0 w2 ⟨rfl, hw⟩
              obtain rfl := hw.symm
              go_upto_region 9 with fail
              have X1 := hide (Box.new w1 #[.bool est, .int .i64 en, .int .i64 esn, .int .i64 epc, .string eregs, .string ecells, .int .i64 eclock, .int .i64 ehandler, .int .i64 eback, .bool epending, .bool ehalted, .int .i64 einput, .int .i64 eticks, .bool einterrupt] 87)
              have E1 := hide (((unhide HE).next (unhide HB1)).next ((Below.refl w1.heap.size w1).alloc (Nat.le_refl _) (.cells #[.bool est, .int .i64 en, .int .i64 esn, .int .i64 epc, .string eregs, .string ecells, .int .i64 eclock, .int .i64 ehandler, .int .i64 eback, .bool epending, .bool ehalted, .int .i64 einput, .int .i64 eticks, .bool einterrupt] 87)))
              generalize w1.alloc (.cells #[.bool est, .int .i64 en, .int .i64 esn, .int .i64 epc, .string eregs, .string ecells, .int .i64 eclock, .int .i64 ehandler, .int .i64 eback, .bool epending, .bool ehalted, .int .i64 einput, .int .i64 eticks, .bool einterrupt] 87) = wy at *
              obtain ⟨cx, fx, gx⟩ := unhide X1
              clear gx
              go_quiet (fail)
              go_wp2_with fail
              go_ret
              refine ⟨_, rfl, ?_⟩
              rw [unhide HRN]
              exact (unhide E1).drewN _
        | true =>
          rw [Hist.runs_more t f l.length l e hrd hgo] at hrun
          have HRN := hide hrun
          have HR2 := hide (Hist.isRun_snoc (unhide HR) hok hgo)
          clear hrun hrd
          have hcm : Hid (Hist.comes (l ++ [e]) = (e.k + 1) % 65536) := hide (by unfold Hist.comes; simp)
          cases hla : l.getLast? with
          | none =>
            have hnil : l = [] := by simpa using hla
            subst hnil
            have hst : e.st = true := by simpa [Hist.goesOn] using hgo
            have hek := hok.k
            clear hgo hla hok
            obtain ⟨est, ek, en, ⟨esn, epc, eregs, ecells, eclock, ehandler, eback, epending, ehalted⟩, ⟨einput, eticks, einterrupt⟩⟩ := e
            simp only at hst hek
            subst hst
            simp only [Hist.En.eval, Hist.En.ecells, List.length_nil, Nat.mul_zero, Nat.zero_add] at *
            go_wp2_with fail
            refine (unhide HEn _).mono ?_
            rintro e0 w1 ⟨rfl, hb⟩
            have HB1 := hide hb
            clear hb
            go_wp2_with fail
            refine (unhide HHi _).mono ?_
            rintro e0 w2 ⟨rfl, hw⟩
            obtain rfl := hw.symm
            go_upto_region 9 with fail
            have X1 := hide (Box.new w1 #[.bool true, .int .i64 en, .int .i64 esn, .int .i64 epc, .string eregs, .string ecells, .int .i64 eclock, .int .i64 ehandler, .int .i64 eback, .bool epending, .bool ehalted, .int .i64 einput, .int .i64 eticks, .bool einterrupt] 87)
            have E1 := hide (((unhide HE).next (unhide HB1)).next ((Below.refl w1.heap.size w1).alloc (Nat.le_refl _) (.cells #[.bool true, .int .i64 en, .int .i64 esn, .int .i64 epc, .string eregs, .string ecells, .int .i64 eclock, .int .i64 ehandler, .int .i64 eback, .bool epending, .bool ehalted, .int .i64 einput, .int .i64 eticks, .bool einterrupt] 87)))
            generalize w1.alloc (.cells #[.bool true, .int .i64 en, .int .i64 esn, .int .i64 epc, .string eregs, .string ecells, .int .i64 eclock, .int .i64 ehandler, .int .i64 eback, .bool epending, .bool ehalted, .int .i64 einput, .int .i64 eticks, .bool einterrupt] 87) = wy at *
            obtain ⟨cx, fx, gx⟩ := unhide X1
            clear gx
            go_quiet (fail)
            have E2 := hide ((unhide E1).drewN nq)
            have X2 := hide ((unhide X1).drewN nq)
            generalize wy.drewN nq = wz at *
            clear cx fx
            obtain ⟨cx, fx, gx⟩ := unhide X2
            have hwz := (unhide E2).2.1.size
            clear gx
            go_wp2_with (at_builtin; refine wpList_append_own _ rfl _ _ 84 rfl w.heap.size 87 i0 (.agg #[.bool false, .int .i64 0, .int .i64 0, .int .i64 0, .string ⟨#[]⟩, .string ⟨#[]⟩, .int .i64 0, .int .i64 0, .int .i64 0, .bool false, .bool false, .int .i64 0, .int .i64 0, .bool false]) 14 120 Tryz.underlying84 hi hz0 hz1 hz2 rfl (by decide) _ _ _ rfl ((unhide E2).1.alloc _) ⟨wz.heap.size, 0, none⟩ 1 1 [.bool true, .int .i64 en, .int .i64 esn, .int .i64 epc, .string eregs, .string ecells, .int .i64 eclock, .int .i64 ehandler, .int .i64 eback, .bool epending, .bool ehalted, .int .i64 einput, .int .i64 eticks, .bool einterrupt] rfl rfl (news_cells wz _ _) (one_e ⟨true, ek, en, ⟨esn, epc, eregs, ecells, eclock, ehandler, eback, epending, ehalted⟩, ⟨einput, eticks, einterrupt⟩⟩) (by first | (have := unhide HL7; unfold maxLen; omega) | simp [maxLen]) (by first | (have := unhide HL7; omega) | simp) (by simp; omega) ?_; intro v' w5 hown' hgrow _; have O5 := hide hown'; have G5 := hide hgrow; clear hown' hgrow)
            go_roundw

            case rel =>
              exact ⟨[⟨true, ek, en, ⟨esn, epc, eregs, ecells, eclock, ehandler, eback, epending, ehalted⟩, ⟨einput, eticks, einterrupt⟩⟩], rfl, by rw [show Hist.comes [⟨true, ek, en, ⟨esn, epc, eregs, ecells, eclock, ehandler, eback, epending, ehalted⟩, ⟨einput, eticks, einterrupt⟩⟩] = (ek + 1) % 65536 from unhide hcm]; go_num, hle2, by rw [List.length_singleton, hf2]; exact unhide HRN, unhide HR2, ERow.snoc (e := ⟨true, ek, en, ⟨esn, epc, eregs, ecells, eclock, ehandler, eback, epending, ehalted⟩, ⟨einput, eticks, einterrupt⟩⟩) (unhide E2) (unhide O5) (unhide G5)⟩
            case measure =>
              simp [intOf] <;> omega
          | some a =>
            have hne : l ≠ [] := by intro h; rw [h] at hla; simp at hla
            obtain ⟨g, cap, rfl⟩ := (unhide HE).some hne
            obtain ⟨n, hn⟩ : ∃ n, l.length = n + 1 := ⟨l.length - 1, by have := List.length_pos_iff.2 hne; omega⟩
            have hia : l[n]? = some a := by
              have := hla
              rw [List.getLast?_eq_getElem?, hn] at this
              simpa using this
            have hao := (unhide HR).ok a (List.mem_of_getElem? hia)
            have HT := hide (to_ref a hao.n)
            have hcl : Hist.comes l = (a.k + 1) % 65536 := by unfold Hist.comes; rw [hla]
            have hgl := goesOn_last (e := e) hla
            rw [hgo] at hgl
            have d1 : ((((40 * l.length : Nat) : Int)) == 0) = false := by
              rw [beq_eq_false_iff_ne]
              omega
            have d2 : (0 : Int) < ((40 * l.length : Nat) : Int) := by omega
            have RG := hide (row_range ecells_length (unhide HE).1 hia)
            have hgw := ((unhide HE).1.lt g rfl).2
            simp only [hn] at HEn HHi HRN hle2 hf2 hl6 h40 hsz d1 d2 HE ⊢
            have HNN := hide hn
            clear hn
            have d3 : (40 * ((n : Int) + 1) == 0) = false := by rw [beq_eq_false_iff_ne]; omega
            have d4 : (0 : Int) < 40 * ((n : Int) + 1) := by omega
            have d5 : ¬ 40 * ((n : Int) + 1) = 0 := by omega
            have d6 := i64_wrap_nat n (by omega)
            have d7 : (n : Int) < (n : Int) + 1 := by omega
            have hk : e.k = (a.k + 1) % 65536 ∧ a.to ≤ e.n := by simpa using hgl.symm
            have hto : ¬ ((e.n : Nat) : Int) < ((a.to : Nat) : Int) := by omega
            have hek := hok.k
            have dk : (((e.k : Nat) : Int) != ((Hist.comes l : Nat) : Int)) = false := by rw [hcl, hk.1]; simp
            clear hgo hgl hk hcl hok hla hia hao hne
            generalize ((a.to : Nat) : Int) = ato at *
            generalize ((Hist.comes l : Nat) : Int) = cml at *
            obtain ⟨est, ek, en, ⟨esn, epc, eregs, ecells, eclock, ehandler, eback, epending, ehalted⟩, ⟨einput, eticks, einterrupt⟩⟩ := e
            obtain ⟨ast, ak, an, ⟨asn, apc, aregs, acells, aclock, ahandler, aback, apending, ahalted⟩, ⟨ainput, aticks, ainterrupt⟩⟩ := a
            simp only [Hist.En.eval, Hist.En.ecells] at HEn HHi HT RG hto dk hek hcm
            go_wp2_with fail
            refine (unhide HEn _).mono ?_
            rintro e0 w1 ⟨rfl, hb⟩
            have HB1 := hide hb
            clear hb
            go_wp2_with fail
            refine (unhide HHi _).mono ?_
            rintro e0 w2 ⟨rfl, hw⟩
            obtain rfl := hw.symm
            go_upto_region 9 with fail
            have X1 := hide (Box.new w1 #[.bool est, .int .i64 en, .int .i64 esn, .int .i64 epc, .string eregs, .string ecells, .int .i64 eclock, .int .i64 ehandler, .int .i64 eback, .bool epending, .bool ehalted, .int .i64 einput, .int .i64 eticks, .bool einterrupt] 87)
            have E1 := hide (((unhide HE).next (unhide HB1)).next ((Below.refl w1.heap.size w1).alloc (Nat.le_refl _) (.cells #[.bool est, .int .i64 en, .int .i64 esn, .int .i64 epc, .string eregs, .string ecells, .int .i64 eclock, .int .i64 ehandler, .int .i64 eback, .bool epending, .bool ehalted, .int .i64 einput, .int .i64 eticks, .bool einterrupt] 87)))
            have BY := hide (bel_then (unhide HB1) ((Below.refl w1.heap.size w1).alloc (Nat.le_refl _) (.cells #[.bool est, .int .i64 en, .int .i64 esn, .int .i64 epc, .string eregs, .string ecells, .int .i64 eclock, .int .i64 ehandler, .int .i64 eback, .bool epending, .bool ehalted, .int .i64 einput, .int .i64 eticks, .bool einterrupt] 87)))
            generalize w1.alloc (.cells #[.bool est, .int .i64 en, .int .i64 esn, .int .i64 epc, .string eregs, .string ecells, .int .i64 eclock, .int .i64 ehandler, .int .i64 eback, .bool epending, .bool ehalted, .int .i64 einput, .int .i64 eticks, .bool einterrupt] 87) = wy at *
            obtain ⟨cx, fx, gx⟩ := unhide X1
            have RY := hide (rangeAt_below (unhide BY) hgw (unhide RG))
            have hgy : g < wy.heap.size := Nat.lt_of_lt_of_le hgw (unhide BY).size
            have r0 := (unhide RY) 0 _ rfl
            rw [Nat.add_zero] at r0
            have r1 := (unhide RY) 1 _ rfl
            have r2 := (unhide RY) 2 _ rfl
            have r3 := (unhide RY) 3 _ rfl
            have r4 := (unhide RY) 4 _ rfl
            have r5 := (unhide RY) 5 _ rfl
            have r6 := (unhide RY) 6 _ rfl
            have r7 := (unhide RY) 7 _ rfl
            have r8 := (unhide RY) 8 _ rfl
            have r9 := (unhide RY) 9 _ rfl
            have r10 := (unhide RY) 10 _ rfl
            have r11 := (unhide RY) 11 _ rfl
            have r12 := (unhide RY) 12 _ rfl
            have r13 := (unhide RY) 13 _ rfl
            clear gx
            refine region_last2 31 (S := (fun u => u.cell? ⟨w1.heap.size, 1, none⟩ = some (.int .i64 en) ∧ u.cell? ⟨g, n * 14, none⟩ = some (.bool ast) ∧ u.cell? ⟨g, n * 14 + 1, none⟩ = some (.int .i64 an) ∧ u.cell? ⟨g, n * 14 + 2, none⟩ = some (.int .i64 asn) ∧ u.cell? ⟨g, n * 14 + 3, none⟩ = some (.int .i64 apc) ∧ u.cell? ⟨g, n * 14 + 4, none⟩ = some (.string aregs) ∧ u.cell? ⟨g, n * 14 + 5, none⟩ = some (.string acells) ∧ u.cell? ⟨g, n * 14 + 6, none⟩ = some (.int .i64 aclock) ∧ u.cell? ⟨g, n * 14 + 7, none⟩ = some (.int .i64 ahandler) ∧ u.cell? ⟨g, n * 14 + 8, none⟩ = some (.int .i64 aback) ∧ u.cell? ⟨g, n * 14 + 9, none⟩ = some (.bool apending) ∧ u.cell? ⟨g, n * 14 + 10, none⟩ = some (.bool ahalted) ∧ u.cell? ⟨g, n * 14 + 11, none⟩ = some (.int .i64 ainput) ∧ u.cell? ⟨g, n * 14 + 12, none⟩ = some (.int .i64 aticks) ∧ u.cell? ⟨g, n * 14 + 13, none⟩ = some (.bool ainterrupt))) _ rfl rfl (by kernel_rfl) (by kernel_rfl) (by first | go_keep | (go_simp; done)) (fun hHeld => ?_)
            simp only [List.pop_toArray, List.dropLast_cons_cons, List.dropLast_singleton]
            refine wpAnyH_take (i := 0) (v := ?_) rfl (by kernel_rfl) (by kernel_rfl) (by kernel_rfl) (fun _ _ _ h => h) (Or.inl ⟨by rfl, ?hy⟩) hHeld ?_
            case hy =>
              simp only [List.getElem_toArray, List.getElem_cons_zero]
              intro w' hSw
              (try dsimp only at hSw)
              go_simp
              with_reducible rfl
            simp only [List.getElem_toArray, List.getElem_cons_zero, Act.put, List.setIfInBounds_toArray, List.set_cons_zero, List.set_cons_succ]
            refine wpAnyH_take (i := 1) (v := ?_) rfl (by kernel_rfl) (by kernel_rfl) (by kernel_rfl) (fun _ _ _ h => h) (Or.inl ⟨by rfl, ?hy⟩) hHeld ?_
            case hy =>
              simp only [List.getElem_toArray, List.getElem_cons_succ, List.getElem_cons_zero]
              intro w' hSw
              (try dsimp only at hSw)
              go_simp
              with_reducible rfl
            simp only [List.getElem_toArray, List.getElem_cons_succ, List.getElem_cons_zero, Act.put, List.setIfInBounds_toArray, List.set_cons_zero, List.set_cons_succ]
            refine wpAnyH_take (i := 2) (v := ?_) rfl (by kernel_rfl) (by kernel_rfl) (by kernel_rfl) (fun _ _ _ h => h) (Or.inl ⟨by rfl, ?hy⟩) hHeld ?_
            case hy =>
              simp only [List.getElem_toArray, List.getElem_cons_succ, List.getElem_cons_zero]
              intro w' hSw
              (try dsimp only at hSw)
              go_simp
              with_reducible rfl
            simp only [List.getElem_toArray, List.getElem_cons_succ, List.getElem_cons_zero, Act.put, List.setIfInBounds_toArray, List.set_cons_zero, List.set_cons_succ]
            refine wpAnyH_take (i := 3) (v := ?_) rfl (by kernel_rfl) (by kernel_rfl) (by kernel_rfl) (fun _ _ _ h => h) (Or.inl ⟨by rfl, ?hy⟩) hHeld ?_
            case hy =>
              simp only [List.getElem_toArray, List.getElem_cons_succ, List.getElem_cons_zero]
              intro w' hSw
              (try dsimp only at hSw)
              go_simp
              with_reducible rfl
            simp only [List.getElem_toArray, List.getElem_cons_succ, List.getElem_cons_zero, Act.put, List.setIfInBounds_toArray, List.set_cons_zero, List.set_cons_succ]
            refine wpAnyH_take (i := 4) (v := ?_) rfl (by kernel_rfl) (by kernel_rfl) (by kernel_rfl) (fun _ _ _ h => h) (Or.inl ⟨by rfl, ?hy⟩) hHeld ?_
            case hy =>
              simp only [List.getElem_toArray, List.getElem_cons_succ, List.getElem_cons_zero]
              intro w' hSw
              (try dsimp only at hSw)
              go_simp
              with_reducible rfl
            simp only [List.getElem_toArray, List.getElem_cons_succ, List.getElem_cons_zero, Act.put, List.setIfInBounds_toArray, List.set_cons_zero, List.set_cons_succ]
            refine wpAnyH_take (i := 5) (v := ?_) rfl (by kernel_rfl) (by kernel_rfl) (by kernel_rfl) (fun _ _ _ h => h) (Or.inl ⟨by rfl, ?hy⟩) hHeld ?_
            case hy =>
              simp only [List.getElem_toArray, List.getElem_cons_succ, List.getElem_cons_zero]
              intro w' hSw
              (try dsimp only at hSw)
              go_simp
              with_reducible rfl
            simp only [List.getElem_toArray, List.getElem_cons_succ, List.getElem_cons_zero, Act.put, List.setIfInBounds_toArray, List.set_cons_zero, List.set_cons_succ]
            refine wpAnyH_take (i := 6) (v := undef) rfl (by kernel_rfl) (by kernel_rfl) (by kernel_rfl) (fun _ _ _ h => h) (Or.inr ⟨by rfl, rfl⟩) hHeld ?_
            simp only [List.getElem_toArray, List.getElem_cons_succ, List.getElem_cons_zero, Act.put, List.setIfInBounds_toArray, List.set_cons_zero, List.set_cons_succ]
            refine wpAnyH_take (i := 7) (v := undef) rfl (by kernel_rfl) (by kernel_rfl) (by kernel_rfl) (fun _ _ _ h => h) (Or.inr ⟨by rfl, rfl⟩) hHeld ?_
            simp only [List.getElem_toArray, List.getElem_cons_succ, List.getElem_cons_zero, Act.put, List.setIfInBounds_toArray, List.set_cons_zero, List.set_cons_succ]
            refine wpAnyH_take (i := 8) (v := undef) rfl (by kernel_rfl) (by kernel_rfl) (by kernel_rfl) (fun _ _ _ h => h) (Or.inr ⟨by rfl, rfl⟩) hHeld ?_
            simp only [List.getElem_toArray, List.getElem_cons_succ, List.getElem_cons_zero, Act.put, List.setIfInBounds_toArray, List.set_cons_zero, List.set_cons_succ]
            refine wpAnyH_take (i := 9) (v := ?_) rfl (by kernel_rfl) (by kernel_rfl) (by kernel_rfl) (fun _ _ _ h => h) (Or.inl ⟨by rfl, ?hy⟩) hHeld ?_
            case hy =>
              simp only [List.getElem_toArray, List.getElem_cons_succ, List.getElem_cons_zero]
              intro w' hSw
              (try dsimp only at hSw)
              go_simp
              with_reducible rfl
            simp only [List.getElem_toArray, List.getElem_cons_succ, List.getElem_cons_zero, Act.put, List.setIfInBounds_toArray, List.set_cons_zero, List.set_cons_succ]
            refine wpAnyH_take (i := 10) (v := ?_) rfl (by kernel_rfl) (by kernel_rfl) (by kernel_rfl) (fun _ _ _ h => h) (Or.inl ⟨by rfl, ?hy⟩) hHeld ?_
            case hy =>
              simp only [List.getElem_toArray, List.getElem_cons_succ, List.getElem_cons_zero]
              intro w' hSw
              (try dsimp only at hSw)
              go_simp
              with_reducible rfl
            simp only [List.getElem_toArray, List.getElem_cons_succ, List.getElem_cons_zero, Act.put, List.setIfInBounds_toArray, List.set_cons_zero, List.set_cons_succ]
            refine wpAnyH_take (i := 11) (v := ?_) rfl (by kernel_rfl) (by kernel_rfl) (by kernel_rfl) (fun _ _ _ h => h) (Or.inl ⟨by rfl, ?hy⟩) hHeld ?_
            case hy =>
              simp only [List.getElem_toArray, List.getElem_cons_succ, List.getElem_cons_zero]
              intro w' hSw
              (try dsimp only at hSw)
              go_simp
              with_reducible rfl
            simp only [List.getElem_toArray, List.getElem_cons_succ, List.getElem_cons_zero, Act.put, List.setIfInBounds_toArray, List.set_cons_zero, List.set_cons_succ]
            refine wpAnyH_take (i := 12) (v := ?_) rfl (by kernel_rfl) (by kernel_rfl) (by kernel_rfl) (fun _ _ _ h => h) (Or.inl ⟨by rfl, ?hy⟩) hHeld ?_
            case hy =>
              simp only [List.getElem_toArray, List.getElem_cons_succ, List.getElem_cons_zero]
              intro w' hSw
              (try dsimp only at hSw)
              go_simp
              with_reducible rfl
            simp only [List.getElem_toArray, List.getElem_cons_succ, List.getElem_cons_zero, Act.put, List.setIfInBounds_toArray, List.set_cons_zero, List.set_cons_succ]
            refine wpAnyH_take (i := 13) (v := ?_) rfl (by kernel_rfl) (by kernel_rfl) (by kernel_rfl) (fun _ _ _ h => h) (Or.inl ⟨by rfl, ?hy⟩) hHeld ?_
            case hy =>
              simp only [List.getElem_toArray, List.getElem_cons_succ, List.getElem_cons_zero]
              intro w' hSw
              (try dsimp only at hSw)
              go_simp
              with_reducible rfl
            simp only [List.getElem_toArray, List.getElem_cons_succ, List.getElem_cons_zero, Act.put, List.setIfInBounds_toArray, List.set_cons_zero, List.set_cons_succ]
            refine wpAnyH_take (i := 14) (v := ?_) rfl (by kernel_rfl) (by kernel_rfl) (by kernel_rfl) (fun _ _ _ h => h) (Or.inl ⟨by rfl, ?hy⟩) hHeld ?_
            case hy =>
              simp only [List.getElem_toArray, List.getElem_cons_succ, List.getElem_cons_zero]
              intro w' hSw
              (try dsimp only at hSw)
              go_simp
              with_reducible rfl
            simp only [List.getElem_toArray, List.getElem_cons_succ, List.getElem_cons_zero, Act.put, List.setIfInBounds_toArray, List.set_cons_zero, List.set_cons_succ]
            refine wpAnyH_take (i := 15) (v := ?_) rfl (by kernel_rfl) (by kernel_rfl) (by kernel_rfl) (fun _ _ _ h => h) (Or.inl ⟨by rfl, ?hy⟩) hHeld ?_
            case hy =>
              simp only [List.getElem_toArray, List.getElem_cons_succ, List.getElem_cons_zero]
              intro w' hSw
              (try dsimp only at hSw)
              go_simp
              with_reducible rfl
            simp only [List.getElem_toArray, List.getElem_cons_succ, List.getElem_cons_zero, Act.put, List.setIfInBounds_toArray, List.set_cons_zero, List.set_cons_succ]
            refine wpAnyH_take (i := 16) (v := ?_) rfl (by kernel_rfl) (by kernel_rfl) (by kernel_rfl) (fun _ _ _ h => h) (Or.inl ⟨by rfl, ?hy⟩) hHeld ?_
            case hy =>
              simp only [List.getElem_toArray, List.getElem_cons_succ, List.getElem_cons_zero]
              intro w' hSw
              (try dsimp only at hSw)
              go_simp
              with_reducible rfl
            simp only [List.getElem_toArray, List.getElem_cons_succ, List.getElem_cons_zero, Act.put, List.setIfInBounds_toArray, List.set_cons_zero, List.set_cons_succ]
            refine wpAnyH_take (i := 17) (v := ?_) rfl (by kernel_rfl) (by kernel_rfl) (by kernel_rfl) (fun _ _ _ h => h) (Or.inl ⟨by rfl, ?hy⟩) hHeld ?_
            case hy =>
              simp only [List.getElem_toArray, List.getElem_cons_succ, List.getElem_cons_zero]
              intro w' hSw
              (try dsimp only at hSw)
              go_simp
              with_reducible rfl
            simp only [List.getElem_toArray, List.getElem_cons_succ, List.getElem_cons_zero, Act.put, List.setIfInBounds_toArray, List.set_cons_zero, List.set_cons_succ]
            refine wpAnyH_take (i := 18) (v := ?_) rfl (by kernel_rfl) (by kernel_rfl) (by kernel_rfl) (fun _ _ _ h => h) (Or.inl ⟨by rfl, ?hy⟩) hHeld ?_
            case hy =>
              simp only [List.getElem_toArray, List.getElem_cons_succ, List.getElem_cons_zero]
              intro w' hSw
              (try dsimp only at hSw)
              go_simp
              with_reducible rfl
            simp only [List.getElem_toArray, List.getElem_cons_succ, List.getElem_cons_zero, Act.put, List.setIfInBounds_toArray, List.set_cons_zero, List.set_cons_succ]
            refine wpAnyH_take (i := 19) (v := ?_) rfl (by kernel_rfl) (by kernel_rfl) (by kernel_rfl) (fun _ _ _ h => h) (Or.inl ⟨by rfl, ?hy⟩) hHeld ?_
            case hy =>
              simp only [List.getElem_toArray, List.getElem_cons_succ, List.getElem_cons_zero]
              intro w' hSw
              (try dsimp only at hSw)
              go_simp
              with_reducible rfl
            simp only [List.getElem_toArray, List.getElem_cons_succ, List.getElem_cons_zero, Act.put, List.setIfInBounds_toArray, List.set_cons_zero, List.set_cons_succ]
            refine wpAnyH_take (i := 20) (v := ?_) rfl (by kernel_rfl) (by kernel_rfl) (by kernel_rfl) (fun _ _ _ h => h) (Or.inl ⟨by rfl, ?hy⟩) hHeld ?_
            case hy =>
              simp only [List.getElem_toArray, List.getElem_cons_succ, List.getElem_cons_zero]
              intro w' hSw
              (try dsimp only at hSw)
              go_simp
              with_reducible rfl
            simp only [List.getElem_toArray, List.getElem_cons_succ, List.getElem_cons_zero, Act.put, List.setIfInBounds_toArray, List.set_cons_zero, List.set_cons_succ]
            refine wpAnyH_take (i := 21) (v := ?_) rfl (by kernel_rfl) (by kernel_rfl) (by kernel_rfl) (fun _ _ _ h => h) (Or.inl ⟨by rfl, ?hy⟩) hHeld ?_
            case hy =>
              simp only [List.getElem_toArray, List.getElem_cons_succ, List.getElem_cons_zero]
              intro w' hSw
              (try dsimp only at hSw)
              go_simp
              with_reducible rfl
            simp only [List.getElem_toArray, List.getElem_cons_succ, List.getElem_cons_zero, Act.put, List.setIfInBounds_toArray, List.set_cons_zero, List.set_cons_succ]
            refine wpAnyH_take (i := 22) (v := ?_) rfl (by kernel_rfl) (by kernel_rfl) (by kernel_rfl) (fun _ _ _ h => h) (Or.inl ⟨by rfl, ?hy⟩) hHeld ?_
            case hy =>
              simp only [List.getElem_toArray, List.getElem_cons_succ, List.getElem_cons_zero]
              intro w' hSw
              (try dsimp only at hSw)
              go_simp
              with_reducible rfl
            simp only [List.getElem_toArray, List.getElem_cons_succ, List.getElem_cons_zero, Act.put, List.setIfInBounds_toArray, List.set_cons_zero, List.set_cons_succ]
            refine wpAnyH_take (i := 23) (v := ?_) rfl (by kernel_rfl) (by kernel_rfl) (by kernel_rfl) (fun _ _ _ h => h) (Or.inl ⟨by rfl, ?hy⟩) hHeld ?_
            case hy =>
              simp only [List.getElem_toArray, List.getElem_cons_succ, List.getElem_cons_zero]
              intro w' hSw
              (try dsimp only at hSw)
              go_simp
              with_reducible rfl
            simp only [List.getElem_toArray, List.getElem_cons_succ, List.getElem_cons_zero, Act.put, List.setIfInBounds_toArray, List.set_cons_zero, List.set_cons_succ]
            refine wpAnyH_take (i := 24) (v := ?_) rfl (by kernel_rfl) (by kernel_rfl) (by kernel_rfl) (fun _ _ _ h => h) (Or.inl ⟨by rfl, ?hy⟩) hHeld ?_
            case hy =>
              simp only [List.getElem_toArray, List.getElem_cons_succ, List.getElem_cons_zero]
              intro w' hSw
              (try dsimp only at hSw)
              go_simp
              with_reducible rfl
            simp only [List.getElem_toArray, List.getElem_cons_succ, List.getElem_cons_zero, Act.put, List.setIfInBounds_toArray, List.set_cons_zero, List.set_cons_succ]
            refine wpAnyH_take (i := 25) (v := ?_) rfl (by kernel_rfl) (by kernel_rfl) (by kernel_rfl) (fun _ _ _ h => h) (Or.inl ⟨by rfl, ?hy⟩) hHeld ?_
            case hy =>
              simp only [List.getElem_toArray, List.getElem_cons_succ, List.getElem_cons_zero]
              intro w' hSw
              (try dsimp only at hSw)
              go_simp
              with_reducible rfl
            simp only [List.getElem_toArray, List.getElem_cons_succ, List.getElem_cons_zero, Act.put, List.setIfInBounds_toArray, List.set_cons_zero, List.set_cons_succ]
            refine wpAnyH_take (i := 26) (v := ?_) rfl (by kernel_rfl) (by kernel_rfl) (by kernel_rfl) (fun _ _ _ h => h) (Or.inl ⟨by rfl, ?hy⟩) hHeld ?_
            case hy =>
              simp only [List.getElem_toArray, List.getElem_cons_succ, List.getElem_cons_zero]
              intro w' hSw
              (try dsimp only at hSw)
              go_simp
              with_reducible rfl
            simp only [List.getElem_toArray, List.getElem_cons_succ, List.getElem_cons_zero, Act.put, List.setIfInBounds_toArray, List.set_cons_zero, List.set_cons_succ]
            refine wpAnyH_ready (rs := [27]) (by kernel_rfl) (by simp) ?_
            refine AllReadyH.cons rfl (fun K hK => ?_) AllReadyH.nil
            simp only [List.getElem_toArray, List.getElem_cons_succ, List.getElem_cons_zero]
            rw [if_pos (by rfl)]
            go_wp2_with (go_at_call 60; refine (unhide HT _).mono ?_; rintro e0 w3 ⟨rfl, hb⟩; have L3 := hide (bel_undrew hb); clear hb; have X3 := hide ((unhide X1).next (unhide L3)); have R3 := rangeAt_below (unhide L3) hgy (unhide RY); have r0' := R3 0 _ rfl; rw [Nat.add_zero] at r0'; have r1' := R3 1 _ rfl; have r2' := R3 2 _ rfl; have r3' := R3 3 _ rfl; have r4' := R3 4 _ rfl; have r5' := R3 5 _ rfl; have r6' := R3 6 _ rfl; have r7' := R3 7 _ rfl; have r8' := R3 8 _ rfl; have r9' := R3 9 _ rfl; have r10' := R3 10 _ rfl; have r11' := R3 11 _ rfl; have r12' := R3 12 _ rfl; have r13' := R3 13 _ rfl; clear R3; obtain ⟨cx3, fx3, gx3⟩ := unhide X3; clear gx3)
            refine hK.out _ _ (by first | go_keep | (go_simp; done)) (fun hH1 => ?_)
            clear hK K
            refine wpAnyH_take (i := 28) (v := ?_) rfl (by kernel_rfl) (by kernel_rfl) (by kernel_rfl) (fun _ _ _ h => h) (Or.inl ⟨by rfl, ?hy⟩) hH1 ?_
            case hy =>
              simp only [List.getElem_toArray, List.getElem_cons_succ, List.getElem_cons_zero]
              intro w' hSw
              (try dsimp only at hSw)
              go_simp
              with_reducible rfl
            simp only [List.getElem_toArray, List.getElem_cons_succ, List.getElem_cons_zero, Act.put, List.setIfInBounds_toArray, List.set_cons_zero, List.set_cons_succ]
            refine wpAnyH_take (i := 29) (v := ?_) rfl (by kernel_rfl) (by kernel_rfl) (by kernel_rfl) (fun _ _ _ h => h) (Or.inl ⟨by rfl, ?hy⟩) hH1 ?_
            case hy =>
              simp only [List.getElem_toArray, List.getElem_cons_succ, List.getElem_cons_zero]
              intro w' hSw
              (try dsimp only at hSw)
              go_simp
              with_reducible rfl
            simp only [List.getElem_toArray, List.getElem_cons_succ, List.getElem_cons_zero, Act.put, List.setIfInBounds_toArray, List.set_cons_zero, List.set_cons_succ]
            refine wpAnyH_take (i := 30) (v := ?_) rfl (by kernel_rfl) (by kernel_rfl) (by kernel_rfl) (fun _ _ _ h => h) (Or.inl ⟨by rfl, ?hy⟩) hH1 ?_
            case hy =>
              simp only [List.getElem_toArray, List.getElem_cons_succ, List.getElem_cons_zero]
              intro w' hSw
              (try dsimp only at hSw)
              go_simp
              with_reducible rfl
            simp only [List.getElem_toArray, List.getElem_cons_succ, List.getElem_cons_zero, Act.put, List.setIfInBounds_toArray, List.set_cons_zero, List.set_cons_succ]
            refine wpAnyH_done (by kernel_rfl) ?_ _
            refine last_step rfl (fun K hK => ?_)
            go_simp
            refine (unhide hK) _ _ ?_
            clear hK K
            have E3 := hide ((unhide E1).next (unhide L3))
            have hw3 := (unhide E3).2.1.size
            go_wp2_with (at_builtin; refine wpList_append_own _ rfl _ _ 84 rfl w.heap.size 87 i0 (.agg #[.bool false, .int .i64 0, .int .i64 0, .int .i64 0, .string ⟨#[]⟩, .string ⟨#[]⟩, .int .i64 0, .int .i64 0, .int .i64 0, .bool false, .bool false, .int .i64 0, .int .i64 0, .bool false]) 14 120 Tryz.underlying84 hi hz0 hz1 hz2 rfl (by decide) _ _ _ rfl ((unhide E3).1.alloc _) ⟨w3.heap.size, 0, none⟩ 1 1 [.bool est, .int .i64 en, .int .i64 esn, .int .i64 epc, .string eregs, .string ecells, .int .i64 eclock, .int .i64 ehandler, .int .i64 eback, .bool epending, .bool ehalted, .int .i64 einput, .int .i64 eticks, .bool einterrupt] rfl rfl (news_cells w3 _ _) (one_e ⟨est, ek, en, ⟨esn, epc, eregs, ecells, eclock, ehandler, eback, epending, ehalted⟩, ⟨einput, eticks, einterrupt⟩⟩) (by first | (have := unhide HL7; unfold maxLen; omega) | simp [maxLen]) (by first | (have := unhide HL7; omega) | simp) (by simp; omega) ?_; intro v' w5 hown' hgrow _; have O5 := hide hown'; have G5 := hide hgrow; clear hown' hgrow)
            go_roundw
            case rel =>
              refine ⟨l ++ [⟨est, ek, en, ⟨esn, epc, eregs, ecells, eclock, ehandler, eback, epending, ehalted⟩, ⟨einput, eticks, einterrupt⟩⟩], ?_, ?_, ?_, ?_, unhide HR2, ERow.snoc (e := ⟨est, ek, en, ⟨esn, epc, eregs, ecells, eclock, ehandler, eback, epending, ehalted⟩, ⟨einput, eticks, einterrupt⟩⟩) (unhide E3) (unhide O5) (unhide G5)⟩
              · rw [List.length_append, unhide HNN]; simp; omega
              · rw [unhide hcm]; go_num
              · rw [List.length_append, unhide HNN]; exact hle2
              · rw [List.length_append, unhide HNN, List.length_singleton, hf2]; exact unhide HRN
            case measure =>
              simp [intOf] <;> omega
    · have HRN : Hid (Hist.run t = l) := hide (by
        rw [hrun, show t.size / 40 - l.length = 0 by omega]
        rfl)
      clear hrun
      go_wp2_with fail
      go_ret
      refine ⟨_, rfl, ?_⟩
      rw [unhide HRN]
      exact unhide HE
end Go.Proofs.YtcmoffiigpchiaaGreat
