import Derived.Test.YtcmoffiigpchiaaGreatHsB
namespace Go.Proofs.YtcmoffiigpchiaaGreat
open Go.RowKit

set_option maxRecDepth 100000 in
set_option maxHeartbeats 4000000 in
theorem span_none (a0 : Option Addr) (cap : Nat) (w : World) :
    Calls Tryz.prog 58 #[.slice a0 0 cap] w fun e w' => e = .returned (.tuple #[.int .i64 0, .int .i64 0, .int .i64 6]) ∧ w' = w := by
  go_enter Tryz.func58, Tryz.ntmps58
  go_wp2
  refine bodyPost_ret (v := .tuple #[.int .i64 0, .int .i64 0, .int .i64 6]) (by simp [results, Tryz.results58, go_sem]) rfl ⟨rfl, rfl⟩

set_option maxRecDepth 100000 in
set_option maxHeartbeats 4000000 in
theorem span_some (n : Nat) (hlen : n + 1 < 1000000000000) (a : Hist.En) (ha : a.Ok) (fn : Int) (g cap : Nat) (w : World) (hr : w.rangeAt g (n * 15) a.fcells) (h2 : w.cell? ⟨g, 2, none⟩ = some (.int .i64 fn)) (hg : g < w.heap.size) :
    Calls Tryz.prog 58 #[.slice (some ⟨g, 0, none⟩) (n + 1) cap] w fun e w' => e = .returned (.tuple #[.int .i64 fn, .int .i64 (a.to : Nat), .int .i64 0]) ∧ Below w.heap.size w w' := by
  have HR := hide (reach_code a ha.n)
  clear ha
  generalize ((a.to : Nat) : Int) = ato at *
  obtain ⟨ast, ak, an, ⟨asn, apc, aregs, acells, aclock, ahandler, aback, apending, ahalted⟩, ⟨ainput, aticks, ainterrupt⟩⟩ := a
  simp only [Hist.En.fval, Hist.En.fcells] at hr HR
  have HRG := hide hr
  have H2 := hide h2
  clear hr h2
  go_enter Tryz.func58, Tryz.ntmps58
  go_upto_region 4 with (refine wpList_load_mid rfl 116 _ rfl g (n * 15) rfl [.int .u8 (kindN ast), .int .i64 ak, .int .i64 an, .int .i64 asn, .int .i64 apc, .string aregs, .string acells, .int .i64 aclock, .int .i64 ahandler, .int .i64 aback, .bool apending, .bool ahalted, .int .i64 ainput, .int .i64 aticks, .bool ainterrupt] _ (unhide HRG) Tryz.underlying116 rfl (by kernel_rfl) ?_)
  have Y0 := hide (Box.new w #[.int .u8 (kindN ast), .int .i64 ak, .int .i64 an, .int .i64 asn, .int .i64 apc, .string aregs, .string acells, .int .i64 aclock, .int .i64 ahandler, .int .i64 aback, .bool apending, .bool ahalted, .int .i64 ainput, .int .i64 aticks, .bool ainterrupt] 116)
  have B0 := hide ((Below.refl w.heap.size w).alloc (Nat.le_refl _) (.cells #[.int .u8 (kindN ast), .int .i64 ak, .int .i64 an, .int .i64 asn, .int .i64 apc, .string aregs, .string acells, .int .i64 aclock, .int .i64 ahandler, .int .i64 aback, .bool apending, .bool ahalted, .int .i64 ainput, .int .i64 aticks, .bool ainterrupt] 116))
  have c2 : (w.alloc (.cells #[.int .u8 (kindN ast), .int .i64 ak, .int .i64 an, .int .i64 asn, .int .i64 apc, .string aregs, .string acells, .int .i64 aclock, .int .i64 ahandler, .int .i64 aback, .bool apending, .bool ahalted, .int .i64 ainput, .int .i64 aticks, .bool ainterrupt] 116)).cell? ⟨g, 2, none⟩ = some (.int .i64 fn) := by
    rw [(unhide B0).cell (p := ⟨g, 2, none⟩) hg]; exact unhide H2
  generalize w.alloc (.cells #[.int .u8 (kindN ast), .int .i64 ak, .int .i64 an, .int .i64 asn, .int .i64 apc, .string aregs, .string acells, .int .i64 aclock, .int .i64 ahandler, .int .i64 aback, .bool apending, .bool ahalted, .int .i64 ainput, .int .i64 aticks, .bool ainterrupt] 116) = wy at *
  obtain ⟨cy, fy, gy⟩ := unhide Y0
  have hgy : g < wy.heap.size := by omega
  clear gy
  refine region_last2 8 (S := (fun u => u.cell? ⟨g, 2, none⟩ = some (.int .i64 fn) ∧ u.cell? ⟨w.heap.size, 0, none⟩ = some (.int .u8 (kindN ast)) ∧ u.cell? ⟨w.heap.size, 1, none⟩ = some (.int .i64 ak) ∧ u.cell? ⟨w.heap.size, 2, none⟩ = some (.int .i64 an) ∧ u.cell? ⟨w.heap.size, 3, none⟩ = some (.int .i64 asn) ∧ u.cell? ⟨w.heap.size, 4, none⟩ = some (.int .i64 apc) ∧ u.cell? ⟨w.heap.size, 5, none⟩ = some (.string aregs) ∧ u.cell? ⟨w.heap.size, 6, none⟩ = some (.string acells) ∧ u.cell? ⟨w.heap.size, 7, none⟩ = some (.int .i64 aclock) ∧ u.cell? ⟨w.heap.size, 8, none⟩ = some (.int .i64 ahandler) ∧ u.cell? ⟨w.heap.size, 9, none⟩ = some (.int .i64 aback) ∧ u.cell? ⟨w.heap.size, 10, none⟩ = some (.bool apending) ∧ u.cell? ⟨w.heap.size, 11, none⟩ = some (.bool ahalted) ∧ u.cell? ⟨w.heap.size, 12, none⟩ = some (.int .i64 ainput) ∧ u.cell? ⟨w.heap.size, 13, none⟩ = some (.int .i64 aticks) ∧ u.cell? ⟨w.heap.size, 14, none⟩ = some (.bool ainterrupt))) _ rfl rfl (by kernel_rfl) (by kernel_rfl) (by first | go_keep | (go_simp; done)) (fun hHeld => ?_)
  simp only [List.pop_toArray, List.dropLast_cons_cons, List.dropLast_singleton]
  refine wpAnyH_take (i := 0) (v := ?_) rfl (by kernel_rfl) (by kernel_rfl) (by kernel_rfl) (fun _ _ _ h => h) (Or.inl ⟨by rfl, ?hy⟩) hHeld ?_
  case hy =>
    simp only [List.getElem_toArray, List.getElem_cons_zero]
    intro w' hSw
    (try dsimp only at hSw)
    go_simp
    with_reducible rfl
  simp only [List.getElem_toArray, List.getElem_cons_zero, Act.put, List.setIfInBounds_toArray, List.set_cons_zero, List.set_cons_succ]
  refine wpAnyH_take (i := 1) (v := ?_) rfl (by kernel_rfl) (by kernel_rfl) (by kernel_rfl) (fun _ _ _ h => h) (Or.inl ⟨by rfl, ?hy⟩) hHeld ?_
  case hy =>
    simp only [List.getElem_toArray, List.getElem_cons_succ, List.getElem_cons_zero]
    intro w' hSw
    (try dsimp only at hSw)
    go_simp
    with_reducible rfl
  simp only [List.getElem_toArray, List.getElem_cons_succ, List.getElem_cons_zero, Act.put, List.setIfInBounds_toArray, List.set_cons_zero, List.set_cons_succ]
  refine wpAnyH_take (i := 2) (v := ?_) rfl (by kernel_rfl) (by kernel_rfl) (by kernel_rfl) (fun _ _ _ h => h) (Or.inl ⟨by rfl, ?hy⟩) hHeld ?_
  case hy =>
    simp only [List.getElem_toArray, List.getElem_cons_succ, List.getElem_cons_zero]
    intro w' hSw
    (try dsimp only at hSw)
    go_simp
    with_reducible rfl
  simp only [List.getElem_toArray, List.getElem_cons_succ, List.getElem_cons_zero, Act.put, List.setIfInBounds_toArray, List.set_cons_zero, List.set_cons_succ]
  refine wpAnyH_take (i := 3) (v := ?_) rfl (by kernel_rfl) (by kernel_rfl) (by kernel_rfl) (fun _ _ _ h => h) (Or.inl ⟨by rfl, ?hy⟩) hHeld ?_
  case hy =>
    simp only [List.getElem_toArray, List.getElem_cons_succ, List.getElem_cons_zero]
    intro w' hSw
    (try dsimp only at hSw)
    go_simp
    with_reducible rfl
  simp only [List.getElem_toArray, List.getElem_cons_succ, List.getElem_cons_zero, Act.put, List.setIfInBounds_toArray, List.set_cons_zero, List.set_cons_succ]
  refine wpAnyH_take (i := 4) (v := ?_) rfl (by kernel_rfl) (by kernel_rfl) (by kernel_rfl) (fun _ _ _ h => h) (Or.inl ⟨by rfl, ?hy⟩) hHeld ?_
  case hy =>
    simp only [List.getElem_toArray, List.getElem_cons_succ, List.getElem_cons_zero]
    intro w' hSw
    (try dsimp only at hSw)
    go_simp
    with_reducible rfl
  simp only [List.getElem_toArray, List.getElem_cons_succ, List.getElem_cons_zero, Act.put, List.setIfInBounds_toArray, List.set_cons_zero, List.set_cons_succ]
  refine wpAnyH_ready (rs := [5]) (by kernel_rfl) (by simp) ?_
  refine AllReadyH.cons rfl (fun K hK => ?_) AllReadyH.nil
  simp only [List.getElem_toArray, List.getElem_cons_succ, List.getElem_cons_zero]
  rw [if_pos (by rfl)]
  go_wp2_with (go_at_call 85; refine (unhide HR _).mono ?_; rintro e w3 ⟨rfl, hb⟩; have L3 := hide (bel_undrew hb); clear hb; have Y3 := hide ((unhide Y0).next (unhide L3)); have c3 := ((unhide L3).cell (p := ⟨g, 2, none⟩) hgy).trans c2; obtain ⟨cy3, fy3, gy3⟩ := unhide Y3; clear gy3)
  refine hK.out _ _ (by first | go_keep | (go_simp; done)) (fun hH1 => ?_)
  clear hK K
  refine wpAnyH_take (i := 6) (v := ?_) rfl (by kernel_rfl) (by kernel_rfl) (by kernel_rfl) (fun _ _ _ h => h) (Or.inl ⟨by rfl, ?hy⟩) hH1 ?_
  case hy =>
    simp only [List.getElem_toArray, List.getElem_cons_succ, List.getElem_cons_zero]
    intro w' hSw
    (try dsimp only at hSw)
    go_simp
    with_reducible rfl
  simp only [List.getElem_toArray, List.getElem_cons_succ, List.getElem_cons_zero, Act.put, List.setIfInBounds_toArray, List.set_cons_zero, List.set_cons_succ]
  refine wpAnyH_take (i := 7) (v := ?_) rfl (by kernel_rfl) (by kernel_rfl) (by kernel_rfl) (fun _ _ _ h => h) (Or.inl ⟨by rfl, ?hy⟩) hH1 ?_
  case hy =>
    simp only [List.getElem_toArray, List.getElem_cons_succ, List.getElem_cons_zero]
    intro w' hSw
    (try dsimp only at hSw)
    go_simp
    with_reducible rfl
  simp only [List.getElem_toArray, List.getElem_cons_succ, List.getElem_cons_zero, Act.put, List.setIfInBounds_toArray, List.set_cons_zero, List.set_cons_succ]
  refine wpAnyH_done (by kernel_rfl) ?_ _
  refine last_step rfl (fun K hK => ?_)
  go_simp
  refine (unhide hK) _ _ ?_
  clear hK K
  go_wp2_with fail
  refine bodyPost_ret (v := .tuple #[.int .i64 fn, .int .i64 ato, .int .i64 0]) (by simp [results, Tryz.results58, go_sem]) rfl ⟨rfl, bel_then (unhide B0) (unhide L3)⟩

/-- What a run's span is, by the program. -/
theorem span_code {w wr : World} {l : List Hist.En} {v : Value} (hR : Hist.IsRun l) (hlen : l.length < 1000000000000) (h : FRow w wr v l) :
    Calls Tryz.prog 58 #[v] wr fun e w' => e = .returned (.tuple #[.int .i64 (Hist.firstN l), .int .i64 (Hist.lastTo l), .int .i64 (Hist.spanErr l)]) ∧ Below wr.heap.size wr w' := by
  obtain ⟨g, cap, rfl, ho, hb⟩ := h
  cases l with
  | nil => exact (span_none _ cap wr).mono (by rintro e w' ⟨rfl, rfl⟩; exact ⟨rfl, Below.refl _ _⟩)
  | cons f r =>
    obtain ⟨a, hla⟩ : ∃ a, (f :: r).getLast? = some a := ⟨_, List.getLast?_eq_some_getLast (by simp)⟩
    have hi : (f :: r)[r.length]? = some a := by
      have := hla
      rw [List.getLast?_eq_getElem?] at this
      simpa using this
    have e1 : Hist.firstN (f :: r) = f.n := rfl
    have e2 : Hist.lastTo (f :: r) = a.to := by unfold Hist.lastTo; rw [hla]
    have e3 : Hist.spanErr (f :: r) = 0 := by unfold Hist.spanErr; simp
    have hl : (f :: r).length = r.length + 1 := by simp
    have r0 := row_range fcells_length ho (i := 0) (e := f) rfl
    have c2 := r0 2 (.int .i64 f.n) rfl
    rw [Nat.zero_mul, Nat.zero_add] at c2
    have rl := row_range fcells_length ho hi
    have hg := (ho.lt g rfl).2
    rw [e1, e2, e3, hl]
    rw [hl] at hlen
    exact span_some r.length hlen a (hR.ok a (List.mem_of_getElem? hi)) f.n g cap wr rl c2 hg

set_option maxHeartbeats 1000000 in
theorem span_api (t : ByteArray) (ht : t.size ≤ 1048576) (w : World) :
    Calls Tryz.prog 33 #[.string t] w fun e w' => e = .returned (.tuple #[.int .i64 (Hist.firstN (Hist.run t)), .int .i64 (Hist.lastTo (Hist.run t)), .int .i64 (Hist.spanErr (Hist.run t))]) ∧ Below w.heap.size w w' := by
  have H1 := hide (run_code t ht)
  have hn := Hist.run_length t
  have HS := hide (fun wr v (h : FRow w wr v (Hist.run t)) => span_code (Hist.run_isRun t) (by omega) h)
  generalize Hist.firstN (Hist.run t) = r1 at *
  generalize Hist.lastTo (Hist.run t) = r2 at *
  generalize Hist.spanErr (Hist.run t) = r3 at *
  go_enter Tryz.func33, Tryz.ntmps33
  go_wp2_with fail
  refine (unhide H1 _).mono ?_
  rintro e w1 ⟨v, rfl, hf⟩
  have HF := hide hf
  have HB : Hid (Below w.heap.size w w1) := hide hf.choose_spec.choose_spec.2.2
  clear hf
  go_wp2_with fail
  refine (unhide HS _ _ (unhide HF)).mono ?_
  rintro e w2 ⟨rfl, hb⟩
  have HB2 := hide hb
  clear hb
  go_wp2_with fail
  refine bodyPost_ret (v := .tuple #[.int .i64 r1, .int .i64 r2, .int .i64 r3]) (by simp [results, Tryz.results33, go_sem]) rfl ⟨rfl, (unhide HB).trans ((unhide HB2).mono (unhide HB).size)⟩
end Go.Proofs.YtcmoffiigpchiaaGreat
