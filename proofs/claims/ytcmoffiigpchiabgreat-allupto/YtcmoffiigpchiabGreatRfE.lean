import Derived.Test.YtcmoffiigpchiabGreatRfD
import Derived.Test.YtcmoffiigpchiabGreatHsC
import Derived.Test.YtcmoffiigpchiabGreatLiftU
import Derived.Test.YtcmoffiigpchiabGreatRefCheckW
namespace Go.Proofs.YtcmoffiigpchiabGreat
open Go.RowKit

set_option maxRecDepth 100000 in
set_option maxHeartbeats 4000000 in
theorem rspan_none (t : ByteArray) (w : World) (hr : Calls Tryz.prog 53 #[.string t] w fun e w' => e = .returned (.slice none 0 0) ∧ Below w.heap.size w w') :
    Calls Tryz.prog 28 #[.string t] w fun e w' => e = .returned (.tuple #[.int .i64 0, .int .i64 0, .int .i64 6]) ∧ Below w.heap.size w w' := by
  have H := hide hr
  clear hr
  go_enter Tryz.func28, Tryz.ntmps28
  go_wp2_with fail
  refine (unhide H).mono ?_
  rintro e w1 ⟨rfl, hb⟩
  have B1 := hide hb
  clear hb
  go_wp2_with fail
  refine bodyPost_ret (v := .tuple #[.int .i64 0, .int .i64 0, .int .i64 6]) (by simp [results, Tryz.results28, go_sem]) rfl ⟨rfl, unhide B1⟩

set_option maxRecDepth 100000 in
set_option maxHeartbeats 4000000 in
theorem rspan_some (t : ByteArray) (n : Nat) (hlen : n + 1 < 1000000000000) (a : Hist.En) (ha : a.Ok) (fn : Int) (w : World)
    (hr : Calls Tryz.prog 53 #[.string t] w fun e w' => ∃ g cap, e = .returned (.slice (some ⟨g, 0, none⟩) (n + 1) cap) ∧ w'.rangeAt g (n * 14) a.ecells ∧ w'.cell? ⟨g, 1, none⟩ = some (.int .i64 fn) ∧ g < w'.heap.size ∧ Below w.heap.size w w') :
    Calls Tryz.prog 28 #[.string t] w fun e w' => e = .returned (.tuple #[.int .i64 fn, .int .i64 (a.to : Nat), .int .i64 0]) ∧ Below w.heap.size w w' := by
  have H := hide hr
  have HT := hide (to_ref a ha.n)
  clear hr ha
  generalize ((a.to : Nat) : Int) = ato at *
  obtain ⟨ast, ak, an, ⟨asn, apc, aregs, acells, aclock, ahandler, aback, apending, ahalted⟩, ⟨ainput, aticks, ainterrupt⟩⟩ := a
  simp only [Hist.En.eval, Hist.En.ecells] at H HT
  have d6 := i64_wrap_nat n (by omega)
  have d7 : (n : Int) < (n : Int) + 1 := by omega
  go_enter Tryz.func28, Tryz.ntmps28
  go_wp2_with fail
  refine (unhide H).mono ?_
  rintro e w1 ⟨g, cap, rfl, hrg, f1, hg, hb⟩
  have B1 := hide hb
  have RG := hide hrg
  clear hb hrg
  go_upto_region 4 with fail
  have r0 := (unhide RG) 0 _ rfl
  rw [Nat.add_zero] at r0
  have r1 := (unhide RG) 1 _ rfl
  have r2 := (unhide RG) 2 _ rfl
  have r3 := (unhide RG) 3 _ rfl
  have r4 := (unhide RG) 4 _ rfl
  have r5 := (unhide RG) 5 _ rfl
  have r6 := (unhide RG) 6 _ rfl
  have r7 := (unhide RG) 7 _ rfl
  have r8 := (unhide RG) 8 _ rfl
  have r9 := (unhide RG) 9 _ rfl
  have r10 := (unhide RG) 10 _ rfl
  have r11 := (unhide RG) 11 _ rfl
  have r12 := (unhide RG) 12 _ rfl
  have r13 := (unhide RG) 13 _ rfl
  refine region_last2 13 (S := (fun u => u.cell? ⟨g, 1, none⟩ = some (.int .i64 fn) ∧ u.cell? ⟨g, n * 14, none⟩ = some (.bool ast) ∧ u.cell? ⟨g, n * 14 + 1, none⟩ = some (.int .i64 an) ∧ u.cell? ⟨g, n * 14 + 2, none⟩ = some (.int .i64 asn) ∧ u.cell? ⟨g, n * 14 + 3, none⟩ = some (.int .i64 apc) ∧ u.cell? ⟨g, n * 14 + 4, none⟩ = some (.string aregs) ∧ u.cell? ⟨g, n * 14 + 5, none⟩ = some (.string acells) ∧ u.cell? ⟨g, n * 14 + 6, none⟩ = some (.int .i64 aclock) ∧ u.cell? ⟨g, n * 14 + 7, none⟩ = some (.int .i64 ahandler) ∧ u.cell? ⟨g, n * 14 + 8, none⟩ = some (.int .i64 aback) ∧ u.cell? ⟨g, n * 14 + 9, none⟩ = some (.bool apending) ∧ u.cell? ⟨g, n * 14 + 10, none⟩ = some (.bool ahalted) ∧ u.cell? ⟨g, n * 14 + 11, none⟩ = some (.int .i64 ainput) ∧ u.cell? ⟨g, n * 14 + 12, none⟩ = some (.int .i64 aticks) ∧ u.cell? ⟨g, n * 14 + 13, none⟩ = some (.bool ainterrupt))) _ rfl rfl (by kernel_rfl) (by kernel_rfl) (by first | go_keep | (go_simp; done)) (fun hHeld => ?_)
  simp only [List.pop_toArray, List.dropLast_cons_cons, List.dropLast_singleton]
  refine wpAnyH_take (i := 0) (v := ?_) rfl (by kernel_rfl) (by kernel_rfl) (by kernel_rfl) (fun _ _ _ h => h) (Or.inl ⟨by rfl, ?hy⟩) hHeld ?_
  case hy =>
    simp only [List.getElem_toArray, List.getElem_cons_zero]
    intro w' hSw
    (try dsimp only at hSw)
    go_simp
    with_reducible rfl
  simp only [List.getElem_toArray, List.getElem_cons_zero, Act.put, List.setIfInBounds_toArray, List.set_cons_zero, List.set_cons_succ]
  refine wpAnyH_take (i := 1) (v := ?_) rfl (by kernel_rfl) (by kernel_rfl) (by kernel_rfl) (fun _ _ _ h => h) (Or.inl ⟨by rfl, ?hy⟩) hHeld ?_
  case hy =>
    simp only [List.getElem_toArray, List.getElem_cons_succ, List.getElem_cons_zero]
    intro w' hSw
    (try dsimp only at hSw)
    go_simp
    with_reducible rfl
  simp only [List.getElem_toArray, List.getElem_cons_succ, List.getElem_cons_zero, Act.put, List.setIfInBounds_toArray, List.set_cons_zero, List.set_cons_succ]
  refine wpAnyH_take (i := 2) (v := ?_) rfl (by kernel_rfl) (by kernel_rfl) (by kernel_rfl) (fun _ _ _ h => h) (Or.inl ⟨by rfl, ?hy⟩) hHeld ?_
  case hy =>
    simp only [List.getElem_toArray, List.getElem_cons_succ, List.getElem_cons_zero]
    intro w' hSw
    (try dsimp only at hSw)
    go_simp
    with_reducible rfl
  simp only [List.getElem_toArray, List.getElem_cons_succ, List.getElem_cons_zero, Act.put, List.setIfInBounds_toArray, List.set_cons_zero, List.set_cons_succ]
  refine wpAnyH_take (i := 3) (v := ?_) rfl (by kernel_rfl) (by kernel_rfl) (by kernel_rfl) (fun _ _ _ h => h) (Or.inl ⟨by rfl, ?hy⟩) hHeld ?_
  case hy =>
    simp only [List.getElem_toArray, List.getElem_cons_succ, List.getElem_cons_zero]
    intro w' hSw
    (try dsimp only at hSw)
    go_simp
    with_reducible rfl
  simp only [List.getElem_toArray, List.getElem_cons_succ, List.getElem_cons_zero, Act.put, List.setIfInBounds_toArray, List.set_cons_zero, List.set_cons_succ]
  refine wpAnyH_take (i := 4) (v := ?_) rfl (by kernel_rfl) (by kernel_rfl) (by kernel_rfl) (fun _ _ _ h => h) (Or.inl ⟨by rfl, ?hy⟩) hHeld ?_
  case hy =>
    simp only [List.getElem_toArray, List.getElem_cons_succ, List.getElem_cons_zero]
    intro w' hSw
    (try dsimp only at hSw)
    go_simp
    with_reducible rfl
  simp only [List.getElem_toArray, List.getElem_cons_succ, List.getElem_cons_zero, Act.put, List.setIfInBounds_toArray, List.set_cons_zero, List.set_cons_succ]
  refine wpAnyH_take (i := 5) (v := ?_) rfl (by kernel_rfl) (by kernel_rfl) (by kernel_rfl) (fun _ _ _ h => h) (Or.inl ⟨by rfl, ?hy⟩) hHeld ?_
  case hy =>
    simp only [List.getElem_toArray, List.getElem_cons_succ, List.getElem_cons_zero]
    intro w' hSw
    (try dsimp only at hSw)
    go_simp
    with_reducible rfl
  simp only [List.getElem_toArray, List.getElem_cons_succ, List.getElem_cons_zero, Act.put, List.setIfInBounds_toArray, List.set_cons_zero, List.set_cons_succ]
  refine wpAnyH_take (i := 6) (v := ?_) rfl (by kernel_rfl) (by kernel_rfl) (by kernel_rfl) (fun _ _ _ h => h) (Or.inl ⟨by rfl, ?hy⟩) hHeld ?_
  case hy =>
    simp only [List.getElem_toArray, List.getElem_cons_succ, List.getElem_cons_zero]
    intro w' hSw
    (try dsimp only at hSw)
    go_simp
    with_reducible rfl
  simp only [List.getElem_toArray, List.getElem_cons_succ, List.getElem_cons_zero, Act.put, List.setIfInBounds_toArray, List.set_cons_zero, List.set_cons_succ]
  refine wpAnyH_take (i := 7) (v := ?_) rfl (by kernel_rfl) (by kernel_rfl) (by kernel_rfl) (fun _ _ _ h => h) (Or.inl ⟨by rfl, ?hy⟩) hHeld ?_
  case hy =>
    simp only [List.getElem_toArray, List.getElem_cons_succ, List.getElem_cons_zero]
    intro w' hSw
    (try dsimp only at hSw)
    go_simp
    with_reducible rfl
  simp only [List.getElem_toArray, List.getElem_cons_succ, List.getElem_cons_zero, Act.put, List.setIfInBounds_toArray, List.set_cons_zero, List.set_cons_succ]
  refine wpAnyH_take (i := 8) (v := ?_) rfl (by kernel_rfl) (by kernel_rfl) (by kernel_rfl) (fun _ _ _ h => h) (Or.inl ⟨by rfl, ?hy⟩) hHeld ?_
  case hy =>
    simp only [List.getElem_toArray, List.getElem_cons_succ, List.getElem_cons_zero]
    intro w' hSw
    (try dsimp only at hSw)
    go_simp
    with_reducible rfl
  simp only [List.getElem_toArray, List.getElem_cons_succ, List.getElem_cons_zero, Act.put, List.setIfInBounds_toArray, List.set_cons_zero, List.set_cons_succ]
  refine wpAnyH_take (i := 9) (v := ?_) rfl (by kernel_rfl) (by kernel_rfl) (by kernel_rfl) (fun _ _ _ h => h) (Or.inl ⟨by rfl, ?hy⟩) hHeld ?_
  case hy =>
    simp only [List.getElem_toArray, List.getElem_cons_succ, List.getElem_cons_zero]
    intro w' hSw
    (try dsimp only at hSw)
    go_simp
    with_reducible rfl
  simp only [List.getElem_toArray, List.getElem_cons_succ, List.getElem_cons_zero, Act.put, List.setIfInBounds_toArray, List.set_cons_zero, List.set_cons_succ]
  refine wpAnyH_ready (rs := [10]) (by kernel_rfl) (by simp) ?_
  refine AllReadyH.cons rfl (fun K hK => ?_) AllReadyH.nil
  simp only [List.getElem_toArray, List.getElem_cons_succ, List.getElem_cons_zero]
  rw [if_pos (by rfl)]
  go_wp2_with (go_at_call 54; refine (unhide HT _).mono ?_; rintro e0 w3 ⟨rfl, hb⟩; have L3 := hide (bel_undrew hb); clear hb; have f3 := ((unhide L3).cell (p := ⟨g, 1, none⟩) hg).trans f1; have R3 := rangeAt_below (unhide L3) hg (unhide RG); have r0' := R3 0 _ rfl; rw [Nat.add_zero] at r0'; have r1' := R3 1 _ rfl; have r2' := R3 2 _ rfl; have r3' := R3 3 _ rfl; have r4' := R3 4 _ rfl; have r5' := R3 5 _ rfl; have r6' := R3 6 _ rfl; have r7' := R3 7 _ rfl; have r8' := R3 8 _ rfl; have r9' := R3 9 _ rfl; have r10' := R3 10 _ rfl; have r11' := R3 11 _ rfl; have r12' := R3 12 _ rfl; have r13' := R3 13 _ rfl; clear R3)
  refine hK.out _ _ (by first | go_keep | (go_simp; done)) (fun hH1 => ?_)
  clear hK K
  refine wpAnyH_take (i := 11) (v := ?_) rfl (by kernel_rfl) (by kernel_rfl) (by kernel_rfl) (fun _ _ _ h => h) (Or.inl ⟨by rfl, ?hy⟩) hH1 ?_
  case hy =>
    simp only [List.getElem_toArray, List.getElem_cons_succ, List.getElem_cons_zero]
    intro w' hSw
    (try dsimp only at hSw)
    go_simp
    with_reducible rfl
  simp only [List.getElem_toArray, List.getElem_cons_succ, List.getElem_cons_zero, Act.put, List.setIfInBounds_toArray, List.set_cons_zero, List.set_cons_succ]
  refine wpAnyH_take (i := 12) (v := ?_) rfl (by kernel_rfl) (by kernel_rfl) (by kernel_rfl) (fun _ _ _ h => h) (Or.inl ⟨by rfl, ?hy⟩) hH1 ?_
  case hy =>
    simp only [List.getElem_toArray, List.getElem_cons_succ, List.getElem_cons_zero]
    intro w' hSw
    (try dsimp only at hSw)
    go_simp
    with_reducible rfl
  simp only [List.getElem_toArray, List.getElem_cons_succ, List.getElem_cons_zero, Act.put, List.setIfInBounds_toArray, List.set_cons_zero, List.set_cons_succ]
  refine wpAnyH_done (by kernel_rfl) ?_ _
  refine last_step rfl (fun K hK => ?_)
  go_simp
  refine (unhide hK) _ _ ?_
  clear hK K
  go_wp2_with fail
  refine bodyPost_ret (v := .tuple #[.int .i64 fn, .int .i64 ato, .int .i64 0]) (by simp [results, Tryz.results28, go_sem]) rfl ⟨rfl, (unhide B1).trans ((unhide L3).mono (unhide B1).size)⟩

theorem rspan_ref (t : ByteArray) (ht : t.size ≤ 1048576) (w : World) :
    Calls Tryz.prog 28 #[.string t] w fun e w' => e = .returned (.tuple #[.int .i64 (Hist.firstN (Hist.run t)), .int .i64 (Hist.lastTo (Hist.run t)), .int .i64 (Hist.spanErr (Hist.run t))]) ∧ Below w.heap.size w w' := by
  have hR := Hist.run_isRun t
  have hn := Hist.run_length t
  have h := run_ref t ht w
  generalize Hist.run t = l at *
  cases l with
  | nil => exact rspan_none t w (h.mono (by rintro e w' ⟨v, rfl, hE⟩; exact ⟨by rw [hE.2.2 rfl], hE.2.1⟩))
  | cons f r =>
    obtain ⟨a, hla⟩ : ∃ a, (f :: r).getLast? = some a := ⟨_, List.getLast?_eq_some_getLast (by simp)⟩
    have hi : (f :: r)[r.length]? = some a := by
      have := hla
      rw [List.getLast?_eq_getElem?] at this
      simpa using this
    have e1 : Hist.firstN (f :: r) = f.n := rfl
    have e2 : Hist.lastTo (f :: r) = a.to := by unfold Hist.lastTo; rw [hla]
    have e3 : Hist.spanErr (f :: r) = 0 := by unfold Hist.spanErr; simp
    rw [e1, e2, e3]
    refine rspan_some t r.length (by simp at hn; omega) a (hR.ok a (List.mem_of_getElem? hi)) f.n w (h.mono ?_)
    rintro e w' ⟨v, rfl, hE⟩
    obtain ⟨g, cap, rfl⟩ := hE.some (by simp)
    have c1 := row_range ecells_length hE.1 (i := 0) (e := f) rfl 1 (.int .i64 f.n) rfl
    rw [Nat.zero_mul, Nat.zero_add] at c1
    exact ⟨g, cap, rfl, row_range ecells_length hE.1 hi, c1, (hE.1.lt g rfl).2, hE.2.1⟩

theorem spanErr_bound (l : List Hist.En) : 0 ≤ Hist.spanErr l ∧ Hist.spanErr l ≤ 6 := by
  unfold Hist.spanErr
  split <;> omega

set_option maxHeartbeats 1000000 in
theorem span_law (t : ByteArray) (ht : t.size ≤ 1048576) (w : World) :
    Calls Tryz.prog 11 #[.string t] w fun e w' => e = .returned (.bool true) ∧ Below w.heap.size w w' := by
  have H1 := hide (span_api t ht)
  have H2 := hide (rspan_ref t ht)
  have hb := spanErr_bound (Hist.run t)
  generalize Hist.firstN (Hist.run t) = r1 at *
  generalize Hist.lastTo (Hist.run t) = r2 at *
  generalize Hist.spanErr (Hist.run t) = r3 at *
  have H3 := hide (num_law r3 (by omega))
  clear hb
  go_enter Tryz.func11, Tryz.ntmps11
  go_wp2_with fail
  refine (unhide H1 _).mono ?_
  rintro e w1 ⟨rfl, hb⟩
  have B1 := hide hb
  clear hb
  go_wp2_with fail
  refine (unhide H2 _).mono ?_
  rintro e w2 ⟨rfl, hb⟩
  have B2 := hide (bel_then (unhide B1) hb)
  clear hb
  go_wp2_with fail
  refine (unhide H3 _).mono ?_
  rintro e w3 ⟨rfl, hw⟩
  obtain rfl := hw.symm
  go_wp2_with fail
  refine (unhide H3 _).mono ?_
  rintro e w3 ⟨rfl, hw⟩
  obtain rfl := hw.symm
  go_wp2_with fail
  go_ret
  exact ⟨by simp, unhide B2⟩

set_option maxRecDepth 100000 in
set_option maxHeartbeats 1000000 in
theorem step_span (o : OpV) (hs : o.Small) (hk : o.kind = 9) (p : Value) (w : World) :
    Calls Tryz.prog 5 #[p, o.val] w fun e w' => e = .returned (.bool true) ∧ Below w.heap.size w w' := by
  have H := hide (span_law o.b hs.b)
  clear hs
  obtain ⟨kind, m, pp, b, ⟨n, pc, regs, cells, clock, handler, back, pending, halted⟩, ⟨input, ticks, interrupt⟩, x, y⟩ := o
  simp only at hk
  subst hk
  unfold OpV.val OpV.cells
  simp only at *
  go_enter Tryz.func5, Tryz.ntmps5
  go_wp2_with (go_at_call 11; refine (unhide H _).mono ?_; rintro e w' ⟨rfl, hb⟩)
  go_ret
  exact ⟨rfl, bel_alloc hb⟩
end Go.Proofs.YtcmoffiigpchiabGreat
