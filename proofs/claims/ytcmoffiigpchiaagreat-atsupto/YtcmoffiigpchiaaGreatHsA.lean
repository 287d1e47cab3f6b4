import Derived.Test.YtcmoffiigpchiaaGreatRdE
namespace Go.Proofs.YtcmoffiigpchiaaGreat
open Go.RowKit

/-! Rows of frames, as they lie. -/
def rowOf (c : Hist.En → List Value) (l : List Hist.En) : List Value := l.flatMap c
theorem rowOf_snoc (c : Hist.En → List Value) (l : List Hist.En) (e : Hist.En) : rowOf c (l ++ [e]) = rowOf c l ++ c e := by simp [rowOf]
theorem rowOf_length {c : Hist.En → List Value} {k : Nat} (hc : ∀ e, (c e).length = k) (l : List Hist.En) : (rowOf c l).length = l.length * k := by
  induction l with
  | nil => simp [rowOf]
  | cons a r ih =>
    have : rowOf c (a :: r) = c a ++ rowOf c r := by simp [rowOf]
    rw [this, List.length_append, ih, hc, List.length_cons, Nat.add_mul, Nat.one_mul, Nat.add_comm]
theorem rowOf_at {c : Hist.En → List Value} {k : Nat} (hc : ∀ e, (c e).length = k) : ∀ (l : List Hist.En) (i : Nat) (e : Hist.En), l[i]? = some e → ∀ j v, (c e)[j]? = some v → (rowOf c l)[i * k + j]? = some v := by
  intro l
  induction l with
  | nil => intro i e h; simp at h
  | cons a r ih =>
    intro i e h j v hv
    have hr : rowOf c (a :: r) = c a ++ rowOf c r := by simp [rowOf]
    have hj := (List.getElem?_eq_some_iff.1 hv).1
    rw [hc] at hj
    match i with
    | 0 =>
      simp at h
      subst h
      rw [hr, Nat.zero_mul, Nat.zero_add, List.getElem?_append_left (by rw [hc]; exact hj)]
      exact hv
    | i + 1 =>
      have h' : r[i]? = some e := by simpa using h
      rw [hr, List.getElem?_append_right (by rw [hc, Nat.add_mul]; omega), hc, show (i + 1) * k + j - k = i * k + j by rw [Nat.add_mul]; omega]
      exact ih i e h' j v hv
theorem row_range {w : World} {base : Nat} {T : TypeId} {c : Hist.En → List Value} {k g n cap : Nat} (hc : ∀ e, (c e).length = k) {l : List Hist.En} (h : w.ownsRow base T k (.slice (some ⟨g, 0, none⟩) n cap) n (rowOf c l)) {i : Nat} {e : Hist.En} (hi : l[i]? = some e) : w.rangeAt g (i * k) (c e) := by
  intro j v hv
  have := h.cells (g := g) rfl (i * k + j) v (rowOf_at hc l i e hi j v hv)
  rw [Addr.add_mid, Nat.zero_add] at this
  exact this
theorem fcells_length (e : Hist.En) : e.fcells.length = 15 := rfl
theorem goesOn_last {l : List Hist.En} {a e : Hist.En} (h : l.getLast? = some a) : Hist.goesOn l e = (decide (e.k = (a.k + 1) % 65536) && decide (a.to ≤ e.n)) := by
  unfold Hist.goesOn
  rw [h]

set_option maxRecDepth 100000 in
set_option maxHeartbeats 4000000 in
theorem follows_none (e : Hist.En) (a0 : Option Addr) (cap : Nat) (w : World) :
    Calls Tryz.prog 84 #[.slice a0 0 cap, e.fval] w fun r w' => r = .returned (.bool (Hist.goesOn [] e)) ∧ Below w.heap.size w w' := by
  obtain ⟨st, k, n, ⟨sn, pc, regs, cells, clock, handler, back, pending, halted⟩, ⟨input, ticks, interrupt⟩⟩ := e
  cases st
  all_goals
    simp only [Hist.En.fval, Hist.En.fcells, kindN, Hist.goesOn, List.getLast?_nil]
    go_enter Tryz.func84, Tryz.ntmps84
    go_wp2
    go_ret
    exact ⟨rfl, (Below.refl _ _).alloc (Nat.le_refl _) _⟩

set_option maxRecDepth 100000 in
set_option maxHeartbeats 4000000 in
theorem follows_some (l : List Hist.En) (hlen : l.length < 1000000000000) (a e : Hist.En) (ha : a.Ok) (g cap : Nat) (hla : l.getLast? = some a) (w : World) (hr : w.rangeAt g ((l.length - 1) * 15) a.fcells) (hg : g < w.heap.size) :
    Calls Tryz.prog 84 #[.slice (some ⟨g, 0, none⟩) l.length cap, e.fval] w fun r w' => r = .returned (.bool (Hist.goesOn l e)) ∧ Below w.heap.size w w' := by
  have HN := hide (next_number a.k ha.k)
  have HR := hide (reach_code a ha.n)
  have hl0 : 0 < l.length := by
    cases l with
    | nil => simp at hla
    | cons x r => simp
  obtain ⟨n, hn⟩ : ∃ n, l.length = n + 1 := ⟨l.length - 1, by omega⟩
  have HG := hide (goesOn_last (e := e) hla)
  have hkE : decide (e.k = (a.k + 1) % 65536) = decide (((e.k : Nat) : Int) = (((a.k + 1) % 65536 : Nat) : Int)) := decide_eq_decide.2 (by omega)
  have hnE : decide (a.to ≤ e.n) = decide (((a.to : Nat) : Int) ≤ ((e.n : Nat) : Int)) := decide_eq_decide.2 (by omega)
  rw [hkE, hnE] at HG
  clear hkE hnE
  rw [hn] at hr ⊢
  have hlen' : n + 1 < 1000000000000 := by omega
  generalize Hist.goesOn l e = go at *
  clear hla ha hl0 hlen hn
  rw [show n + 1 - 1 = n by omega] at hr
  generalize (((a.k + 1) % 65536 : Nat) : Int) = ak' at *
  generalize ((a.to : Nat) : Int) = ato at *
  obtain ⟨ast, ak, an, ⟨asn, apc, aregs, acells, aclock, ahandler, aback, apending, ahalted⟩, ⟨ainput, aticks, ainterrupt⟩⟩ := a
  obtain ⟨est, ek, en, ⟨esn, epc, eregs, ecells, eclock, ehandler, eback, epending, ehalted⟩, ⟨einput, eticks, einterrupt⟩⟩ := e
  simp only [Hist.En.fval, Hist.En.fcells] at hr HR HN HG ⊢
  have HRG := hide (rangeAt_below ((Below.refl w.heap.size w).alloc (Nat.le_refl _) (.cells #[.int .u8 (kindN est), .int .i64 ek, .int .i64 en, .int .i64 esn, .int .i64 epc, .string eregs, .string ecells, .int .i64 eclock, .int .i64 ehandler, .int .i64 eback, .bool epending, .bool ehalted, .int .i64 einput, .int .i64 eticks, .bool einterrupt] 116)) hg hr)
  clear hr
  go_enter Tryz.func84, Tryz.ntmps84
  go_upto_region 4 with (refine wpList_load_mid rfl 116 _ rfl g (n * 15) rfl [.int .u8 (kindN ast), .int .i64 ak, .int .i64 an, .int .i64 asn, .int .i64 apc, .string aregs, .string acells, .int .i64 aclock, .int .i64 ahandler, .int .i64 aback, .bool apending, .bool ahalted, .int .i64 ainput, .int .i64 aticks, .bool ainterrupt] _ (unhide HRG) Tryz.underlying116 rfl (by kernel_rfl) ?_)
  have X0 := hide ((Box.new w #[.int .u8 (kindN est), .int .i64 ek, .int .i64 en, .int .i64 esn, .int .i64 epc, .string eregs, .string ecells, .int .i64 eclock, .int .i64 ehandler, .int .i64 eback, .bool epending, .bool ehalted, .int .i64 einput, .int .i64 eticks, .bool einterrupt] 116).alloc (.cells #[.int .u8 (kindN ast), .int .i64 ak, .int .i64 an, .int .i64 asn, .int .i64 apc, .string aregs, .string acells, .int .i64 aclock, .int .i64 ahandler, .int .i64 aback, .bool apending, .bool ahalted, .int .i64 ainput, .int .i64 aticks, .bool ainterrupt] 116))
  have Y0 := hide (Box.new (w.alloc (.cells #[.int .u8 (kindN est), .int .i64 ek, .int .i64 en, .int .i64 esn, .int .i64 epc, .string eregs, .string ecells, .int .i64 eclock, .int .i64 ehandler, .int .i64 eback, .bool epending, .bool ehalted, .int .i64 einput, .int .i64 eticks, .bool einterrupt] 116)) #[.int .u8 (kindN ast), .int .i64 ak, .int .i64 an, .int .i64 asn, .int .i64 apc, .string aregs, .string acells, .int .i64 aclock, .int .i64 ahandler, .int .i64 aback, .bool apending, .bool ahalted, .int .i64 ainput, .int .i64 aticks, .bool ainterrupt] 116)
  have B0 := hide (((Below.refl w.heap.size w).alloc (Nat.le_refl _) (.cells #[.int .u8 (kindN est), .int .i64 ek, .int .i64 en, .int .i64 esn, .int .i64 epc, .string eregs, .string ecells, .int .i64 eclock, .int .i64 ehandler, .int .i64 eback, .bool epending, .bool ehalted, .int .i64 einput, .int .i64 eticks, .bool einterrupt] 116)).alloc (by simp) (.cells #[.int .u8 (kindN ast), .int .i64 ak, .int .i64 an, .int .i64 asn, .int .i64 apc, .string aregs, .string acells, .int .i64 aclock, .int .i64 ahandler, .int .i64 aback, .bool apending, .bool ahalted, .int .i64 ainput, .int .i64 aticks, .bool ainterrupt] 116))
  rw [show (w.alloc (.cells #[.int .u8 (kindN est), .int .i64 ek, .int .i64 en, .int .i64 esn, .int .i64 epc, .string eregs, .string ecells, .int .i64 eclock, .int .i64 ehandler, .int .i64 eback, .bool epending, .bool ehalted, .int .i64 einput, .int .i64 eticks, .bool einterrupt] 116)).heap.size = w.heap.size + 1 by simp] at Y0
  generalize (w.alloc (.cells #[.int .u8 (kindN est), .int .i64 ek, .int .i64 en, .int .i64 esn, .int .i64 epc, .string eregs, .string ecells, .int .i64 eclock, .int .i64 ehandler, .int .i64 eback, .bool epending, .bool ehalted, .int .i64 einput, .int .i64 eticks, .bool einterrupt] 116)).alloc (.cells #[.int .u8 (kindN ast), .int .i64 ak, .int .i64 an, .int .i64 asn, .int .i64 apc, .string aregs, .string acells, .int .i64 aclock, .int .i64 ahandler, .int .i64 aback, .bool apending, .bool ahalted, .int .i64 ainput, .int .i64 aticks, .bool ainterrupt] 116) = wy at *
  obtain ⟨cx, fx, gx⟩ := unhide X0
  obtain ⟨cy, fy, gy⟩ := unhide Y0
  clear gx gy
  by_cases hk : ((ek : Nat) : Int) = ak'
  · have hd : (((ek : Nat) : Int) == ak') = true := by simp [hk]
    have hgo : go = decide (ato ≤ ((en : Nat) : Int)) := by have := unhide HG; simpa [hk] using this
    have HG := hide hgo
    clear hgo hk
    refine region_last2 13 (S := (fun u => u.cell? ⟨w.heap.size, 1, none⟩ = some (.int .i64 ek) ∧ u.cell? ⟨w.heap.size, 2, none⟩ = some (.int .i64 en) ∧ u.cell? ⟨w.heap.size + 1, 0, none⟩ = some (.int .u8 (kindN ast)) ∧ u.cell? ⟨w.heap.size + 1, 1, none⟩ = some (.int .i64 ak) ∧ u.cell? ⟨w.heap.size + 1, 2, none⟩ = some (.int .i64 an) ∧ u.cell? ⟨w.heap.size + 1, 3, none⟩ = some (.int .i64 asn) ∧ u.cell? ⟨w.heap.size + 1, 4, none⟩ = some (.int .i64 apc) ∧ u.cell? ⟨w.heap.size + 1, 5, none⟩ = some (.string aregs) ∧ u.cell? ⟨w.heap.size + 1, 6, none⟩ = some (.string acells) ∧ u.cell? ⟨w.heap.size + 1, 7, none⟩ = some (.int .i64 aclock) ∧ u.cell? ⟨w.heap.size + 1, 8, none⟩ = some (.int .i64 ahandler) ∧ u.cell? ⟨w.heap.size + 1, 9, none⟩ = some (.int .i64 aback) ∧ u.cell? ⟨w.heap.size + 1, 10, none⟩ = some (.bool apending) ∧ u.cell? ⟨w.heap.size + 1, 11, none⟩ = some (.bool ahalted) ∧ u.cell? ⟨w.heap.size + 1, 12, none⟩ = some (.int .i64 ainput) ∧ u.cell? ⟨w.heap.size + 1, 13, none⟩ = some (.int .i64 aticks) ∧ u.cell? ⟨w.heap.size + 1, 14, none⟩ = some (.bool ainterrupt))) _ rfl rfl (by kernel_rfl) (by kernel_rfl) (by first | go_keep | (go_simp; done)) (fun hHeld => ?_)
    simp only [List.pop_toArray, List.dropLast_cons_cons, List.dropLast_singleton]
    refine wpAnyH_take (i := 0) (v := ?_) rfl (by kernel_rfl) (by kernel_rfl) (by kernel_rfl) (fun _ _ _ h => h) (Or.inl ⟨by rfl, ?hy⟩) hHeld ?_
    case hy =>
      simp only [List.getElem_toArray, List.getElem_cons_zero]
      intro w' hSw
      (try dsimp only at hSw)
      go_simp
      with_reducible rfl
    simp only [List.getElem_toArray, List.getElem_cons_zero, Act.put, List.setIfInBounds_toArray, List.set_cons_zero, List.set_cons_succ]
    refine wpAnyH_take (i := 1) (v := ?_) rfl (by kernel_rfl) (by kernel_rfl) (by kernel_rfl) (fun _ _ _ h => h) (Or.inl ⟨by rfl, ?hy⟩) hHeld ?_
    case hy =>
      simp only [List.getElem_toArray, List.getElem_cons_succ, List.getElem_cons_zero]
      intro w' hSw
      (try dsimp only at hSw)
      go_simp
      with_reducible rfl
    simp only [List.getElem_toArray, List.getElem_cons_succ, List.getElem_cons_zero, Act.put, List.setIfInBounds_toArray, List.set_cons_zero, List.set_cons_succ]
    refine wpAnyH_take (i := 2) (v := ?_) rfl (by kernel_rfl) (by kernel_rfl) (by kernel_rfl) (fun _ _ _ h => h) (Or.inl ⟨by rfl, ?hy⟩) hHeld ?_
    case hy =>
      simp only [List.getElem_toArray, List.getElem_cons_succ, List.getElem_cons_zero]
      intro w' hSw
      (try dsimp only at hSw)
      go_simp
      with_reducible rfl
    simp only [List.getElem_toArray, List.getElem_cons_succ, List.getElem_cons_zero, Act.put, List.setIfInBounds_toArray, List.set_cons_zero, List.set_cons_succ]
    refine wpAnyH_take (i := 3) (v := ?_) rfl (by kernel_rfl) (by kernel_rfl) (by kernel_rfl) (fun _ _ _ h => h) (Or.inl ⟨by rfl, ?hy⟩) hHeld ?_
    case hy =>
      simp only [List.getElem_toArray, List.getElem_cons_succ, List.getElem_cons_zero]
      intro w' hSw
      (try dsimp only at hSw)
      go_simp
      with_reducible rfl
    simp only [List.getElem_toArray, List.getElem_cons_succ, List.getElem_cons_zero, Act.put, List.setIfInBounds_toArray, List.set_cons_zero, List.set_cons_succ]
    refine wpAnyH_ready (rs := [4]) (by kernel_rfl) (by simp) ?_
    refine AllReadyH.cons rfl (fun K hK => ?_) AllReadyH.nil
    simp only [List.getElem_toArray, List.getElem_cons_succ, List.getElem_cons_zero]
    rw [if_pos (by simp [Region.wanted])]
    go_wp2_with (go_at_call 111; refine (unhide HN _).mono ?_; rintro e w2 ⟨rfl, hw⟩; obtain rfl := hw.symm)
    refine hK.out _ _ (by first | go_keep | (go_simp; done)) (fun hH1 => ?_)
    clear hK K
    refine wpAnyH_take (i := 5) (v := ?_) rfl (by kernel_rfl) (by kernel_rfl) (by kernel_rfl) (fun _ _ _ h => h) (Or.inl ⟨by rfl, ?hy⟩) hH1 ?_
    case hy =>
      simp only [List.getElem_toArray, List.getElem_cons_succ, List.getElem_cons_zero]
      intro w' hSw
      (try dsimp only at hSw)
      go_simp
      with_reducible rfl
    simp only [List.getElem_toArray, List.getElem_cons_succ, List.getElem_cons_zero, Act.put, List.setIfInBounds_toArray, List.set_cons_zero, List.set_cons_succ]
    refine wpAnyH_take (i := 6) (v := ?_) rfl (by kernel_rfl) (by kernel_rfl) (by kernel_rfl) (fun _ _ _ h => h) (Or.inl ⟨by rfl, ?hy⟩) hH1 ?_
    case hy =>
      simp only [List.getElem_toArray, List.getElem_cons_succ, List.getElem_cons_zero]
      intro w' hSw
      (try dsimp only at hSw)
      go_simp
      with_reducible rfl
    simp only [List.getElem_toArray, List.getElem_cons_succ, List.getElem_cons_zero, Act.put, List.setIfInBounds_toArray, List.set_cons_zero, List.set_cons_succ]
    refine wpAnyH_take (i := 7) (v := ?_) rfl (by kernel_rfl) (by kernel_rfl) (by kernel_rfl) (fun _ _ _ h => h) (Or.inl ⟨by rfl, ?hy⟩) hH1 ?_
    case hy =>
      simp only [List.getElem_toArray, List.getElem_cons_succ, List.getElem_cons_zero]
      intro w' hSw
      (try dsimp only at hSw)
      go_simp
      with_reducible rfl
    simp only [List.getElem_toArray, List.getElem_cons_succ, List.getElem_cons_zero, Act.put, List.setIfInBounds_toArray, List.set_cons_zero, List.set_cons_succ]
    refine wpAnyH_take (i := 8) (v := ?_) rfl (by kernel_rfl) (by kernel_rfl) (by kernel_rfl) (fun _ _ _ h => h) (Or.inl ⟨by rfl, ?hy⟩) hH1 ?_
    case hy =>
      simp only [List.getElem_toArray, List.getElem_cons_succ, List.getElem_cons_zero]
      intro w' hSw
      (try dsimp only at hSw)
      go_simp
      with_reducible rfl
    simp only [List.getElem_toArray, List.getElem_cons_succ, List.getElem_cons_zero, Act.put, List.setIfInBounds_toArray, List.set_cons_zero, List.set_cons_succ]
    refine wpAnyH_take (i := 9) (v := ?_) rfl (by kernel_rfl) (by kernel_rfl) (by kernel_rfl) (fun _ _ _ h => h) (Or.inl ⟨by rfl, ?hy⟩) hH1 ?_
    case hy =>
      simp only [List.getElem_toArray, List.getElem_cons_succ, List.getElem_cons_zero]
      intro w' hSw
      (try dsimp only at hSw)
      go_simp
      with_reducible rfl
    simp only [List.getElem_toArray, List.getElem_cons_succ, List.getElem_cons_zero, Act.put, List.setIfInBounds_toArray, List.set_cons_zero, List.set_cons_succ]
    refine wpAnyH_ready (rs := [10]) (by kernel_rfl) (by simp) ?_
    refine AllReadyH.cons rfl (fun K hK => ?_) AllReadyH.nil
    simp only [List.getElem_toArray, List.getElem_cons_succ, List.getElem_cons_zero]
    rw [if_pos (by rfl)]
    go_wp2_with (go_at_call 85; refine (unhide HR _).mono ?_; rintro e w3 ⟨rfl, hb⟩; have L3 := hide (bel_undrew hb); clear hb; have X3 := hide ((unhide X0).next (unhide L3)); have Y3 := hide ((unhide Y0).next (unhide L3)); obtain ⟨cx3, fx3, gx3⟩ := unhide X3; obtain ⟨cy3, fy3, gy3⟩ := unhide Y3; clear gx3 gy3)
    refine hK.out _ _ (by first | go_keep | (go_simp; done)) (fun hH2 => ?_)
    clear hK K
    refine wpAnyH_take (i := 11) (v := ?_) rfl (by kernel_rfl) (by kernel_rfl) (by kernel_rfl) (fun _ _ _ h => h) (Or.inl ⟨by rfl, ?hy⟩) hH2 ?_
    case hy =>
      simp only [List.getElem_toArray, List.getElem_cons_succ, List.getElem_cons_zero]
      intro w' hSw
      (try dsimp only at hSw)
      go_simp
      with_reducible rfl
    simp only [List.getElem_toArray, List.getElem_cons_succ, List.getElem_cons_zero, Act.put, List.setIfInBounds_toArray, List.set_cons_zero, List.set_cons_succ]
    refine wpAnyH_take (i := 12) (v := ?_) rfl (by kernel_rfl) (by kernel_rfl) (by kernel_rfl) (fun _ _ _ h => h) (Or.inl ⟨by rfl, ?hy⟩) hH2 ?_
    case hy =>
      simp only [List.getElem_toArray, List.getElem_cons_succ, List.getElem_cons_zero]
      intro w' hSw
      (try dsimp only at hSw)
      go_simp
      with_reducible rfl
    simp only [List.getElem_toArray, List.getElem_cons_succ, List.getElem_cons_zero, Act.put, List.setIfInBounds_toArray, List.set_cons_zero, List.set_cons_succ]
    refine wpAnyH_done (by kernel_rfl) ?_ _
    refine last_step rfl (fun K hK => ?_)
    go_simp
    refine (unhide hK) _ _ ?_
    clear hK K
    go_wp2_with fail
    go_ret
    exact ⟨by rw [unhide HG]; rfl, bel_then (unhide B0) (unhide L3)⟩
  · have hd : (((ek : Nat) : Int) == ak') = false := by simp [hk]
    have hgo : go = false := by have := unhide HG; simpa [hk] using this
    have HG := hide hgo
    clear hgo hk
    refine region_last2 13 (S := (fun u => u.cell? ⟨w.heap.size, 1, none⟩ = some (.int .i64 ek) ∧ u.cell? ⟨w.heap.size, 2, none⟩ = some (.int .i64 en) ∧ u.cell? ⟨w.heap.size + 1, 0, none⟩ = some (.int .u8 (kindN ast)) ∧ u.cell? ⟨w.heap.size + 1, 1, none⟩ = some (.int .i64 ak) ∧ u.cell? ⟨w.heap.size + 1, 2, none⟩ = some (.int .i64 an) ∧ u.cell? ⟨w.heap.size + 1, 3, none⟩ = some (.int .i64 asn) ∧ u.cell? ⟨w.heap.size + 1, 4, none⟩ = some (.int .i64 apc) ∧ u.cell? ⟨w.heap.size + 1, 5, none⟩ = some (.string aregs) ∧ u.cell? ⟨w.heap.size + 1, 6, none⟩ = some (.string acells) ∧ u.cell? ⟨w.heap.size + 1, 7, none⟩ = some (.int .i64 aclock) ∧ u.cell? ⟨w.heap.size + 1, 8, none⟩ = some (.int .i64 ahandler) ∧ u.cell? ⟨w.heap.size + 1, 9, none⟩ = some (.int .i64 aback) ∧ u.cell? ⟨w.heap.size + 1, 10, none⟩ = some (.bool apending) ∧ u.cell? ⟨w.heap.size + 1, 11, none⟩ = some (.bool ahalted) ∧ u.cell? ⟨w.heap.size + 1, 12, none⟩ = some (.int .i64 ainput) ∧ u.cell? ⟨w.heap.size + 1, 13, none⟩ = some (.int .i64 aticks) ∧ u.cell? ⟨w.heap.size + 1, 14, none⟩ = some (.bool ainterrupt))) _ rfl rfl (by kernel_rfl) (by kernel_rfl) (by first | go_keep | (go_simp; done)) (fun hHeld => ?_)
    simp only [List.pop_toArray, List.dropLast_cons_cons, List.dropLast_singleton]
    refine wpAnyH_take (i := 0) (v := ?_) rfl (by kernel_rfl) (by kernel_rfl) (by kernel_rfl) (fun _ _ _ h => h) (Or.inl ⟨by rfl, ?hy⟩) hHeld ?_
    case hy =>
      simp only [List.getElem_toArray, List.getElem_cons_zero]
      intro w' hSw
      (try dsimp only at hSw)
      go_simp
      with_reducible rfl
    simp only [List.getElem_toArray, List.getElem_cons_zero, Act.put, List.setIfInBounds_toArray, List.set_cons_zero, List.set_cons_succ]
    refine wpAnyH_take (i := 1) (v := ?_) rfl (by kernel_rfl) (by kernel_rfl) (by kernel_rfl) (fun _ _ _ h => h) (Or.inl ⟨by rfl, ?hy⟩) hHeld ?_
    case hy =>
      simp only [List.getElem_toArray, List.getElem_cons_succ, List.getElem_cons_zero]
      intro w' hSw
      (try dsimp only at hSw)
      go_simp
      with_reducible rfl
    simp only [List.getElem_toArray, List.getElem_cons_succ, List.getElem_cons_zero, Act.put, List.setIfInBounds_toArray, List.set_cons_zero, List.set_cons_succ]
    refine wpAnyH_take (i := 2) (v := ?_) rfl (by kernel_rfl) (by kernel_rfl) (by kernel_rfl) (fun _ _ _ h => h) (Or.inl ⟨by rfl, ?hy⟩) hHeld ?_
    case hy =>
      simp only [List.getElem_toArray, List.getElem_cons_succ, List.getElem_cons_zero]
      intro w' hSw
      (try dsimp only at hSw)
      go_simp
      with_reducible rfl
    simp only [List.getElem_toArray, List.getElem_cons_succ, List.getElem_cons_zero, Act.put, List.setIfInBounds_toArray, List.set_cons_zero, List.set_cons_succ]
    refine wpAnyH_take (i := 3) (v := ?_) rfl (by kernel_rfl) (by kernel_rfl) (by kernel_rfl) (fun _ _ _ h => h) (Or.inl ⟨by rfl, ?hy⟩) hHeld ?_
    case hy =>
      simp only [List.getElem_toArray, List.getElem_cons_succ, List.getElem_cons_zero]
      intro w' hSw
      (try dsimp only at hSw)
      go_simp
      with_reducible rfl
    simp only [List.getElem_toArray, List.getElem_cons_succ, List.getElem_cons_zero, Act.put, List.setIfInBounds_toArray, List.set_cons_zero, List.set_cons_succ]
    refine wpAnyH_ready (rs := [4]) (by kernel_rfl) (by simp) ?_
    refine AllReadyH.cons rfl (fun K hK => ?_) AllReadyH.nil
    simp only [List.getElem_toArray, List.getElem_cons_succ, List.getElem_cons_zero]
    rw [if_pos (by simp [Region.wanted])]
    go_wp2_with (go_at_call 111; refine (unhide HN _).mono ?_; rintro e w2 ⟨rfl, hw⟩; obtain rfl := hw.symm)
    refine hK.out _ _ (by first | go_keep | (go_simp; done)) (fun hH1 => ?_)
    clear hK K
    refine wpAnyH_take (i := 5) (v := ?_) rfl (by kernel_rfl) (by kernel_rfl) (by kernel_rfl) (fun _ _ _ h => h) (Or.inl ⟨by rfl, ?hy⟩) hH1 ?_
    case hy =>
      simp only [List.getElem_toArray, List.getElem_cons_succ, List.getElem_cons_zero]
      intro w' hSw
      (try dsimp only at hSw)
      go_simp
      with_reducible rfl
    simp only [List.getElem_toArray, List.getElem_cons_succ, List.getElem_cons_zero, Act.put, List.setIfInBounds_toArray, List.set_cons_zero, List.set_cons_succ]
    refine wpAnyH_take (i := 6) (v := ?_) rfl (by kernel_rfl) (by kernel_rfl) (by kernel_rfl) (fun _ _ _ h => h) (Or.inl ⟨by rfl, ?hy⟩) hH1 ?_
    case hy =>
      simp only [List.getElem_toArray, List.getElem_cons_succ, List.getElem_cons_zero]
      intro w' hSw
      (try dsimp only at hSw)
      go_simp
      with_reducible rfl
    simp only [List.getElem_toArray, List.getElem_cons_succ, List.getElem_cons_zero, Act.put, List.setIfInBounds_toArray, List.set_cons_zero, List.set_cons_succ]
    refine wpAnyH_take (i := 7) (v := undef) rfl (by kernel_rfl) (by kernel_rfl) (by kernel_rfl) (fun _ _ _ h => h) (Or.inr ⟨by rfl, rfl⟩) hH1 ?_
    simp only [List.getElem_toArray, List.getElem_cons_succ, List.getElem_cons_zero, Act.put, List.setIfInBounds_toArray, List.set_cons_zero, List.set_cons_succ]
    refine wpAnyH_take (i := 8) (v := undef) rfl (by kernel_rfl) (by kernel_rfl) (by kernel_rfl) (fun _ _ _ h => h) (Or.inr ⟨by rfl, rfl⟩) hH1 ?_
    simp only [List.getElem_toArray, List.getElem_cons_succ, List.getElem_cons_zero, Act.put, List.setIfInBounds_toArray, List.set_cons_zero, List.set_cons_succ]
    refine wpAnyH_take (i := 9) (v := undef) rfl (by kernel_rfl) (by kernel_rfl) (by kernel_rfl) (fun _ _ _ h => h) (Or.inr ⟨by rfl, rfl⟩) hH1 ?_
    simp only [List.getElem_toArray, List.getElem_cons_succ, List.getElem_cons_zero, Act.put, List.setIfInBounds_toArray, List.set_cons_zero, List.set_cons_succ]
    refine wpAnyH_take (i := 10) (v := undef) rfl (by kernel_rfl) (by kernel_rfl) (by kernel_rfl) (fun _ _ _ h => h) (Or.inr ⟨by rfl, rfl⟩) hH1 ?_
    simp only [List.getElem_toArray, List.getElem_cons_succ, List.getElem_cons_zero, Act.put, List.setIfInBounds_toArray, List.set_cons_zero, List.set_cons_succ]
    refine wpAnyH_take (i := 11) (v := undef) rfl (by kernel_rfl) (by kernel_rfl) (by kernel_rfl) (fun _ _ _ h => h) (Or.inr ⟨by rfl, rfl⟩) hH1 ?_
    simp only [List.getElem_toArray, List.getElem_cons_succ, List.getElem_cons_zero, Act.put, List.setIfInBounds_toArray, List.set_cons_zero, List.set_cons_succ]
    refine wpAnyH_take (i := 12) (v := ?_) rfl (by kernel_rfl) (by kernel_rfl) (by kernel_rfl) (fun _ _ _ h => h) (Or.inl ⟨by rfl, ?hy⟩) hH1 ?_
    case hy =>
      simp only [List.getElem_toArray, List.getElem_cons_succ, List.getElem_cons_zero]
      intro w' hSw
      (try dsimp only at hSw)
      go_simp
      with_reducible rfl
    simp only [List.getElem_toArray, List.getElem_cons_succ, List.getElem_cons_zero, Act.put, List.setIfInBounds_toArray, List.set_cons_zero, List.set_cons_succ]
    refine wpAnyH_done (by kernel_rfl) ?_ _
    refine last_step rfl (fun K hK => ?_)
    go_simp
    refine (unhide hK) _ _ ?_
    clear hK K
    go_wp2_with fail
    go_ret
    exact ⟨by rw [unhide HG]; rfl, Below.drew (unhide B0)⟩
end Go.Proofs.YtcmoffiigpchiaaGreat
