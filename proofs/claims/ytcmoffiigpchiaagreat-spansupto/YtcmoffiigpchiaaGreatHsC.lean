import Derived.Test.YtcmoffiigpchiaaGreatRdE
import Derived.Laws.AppendOwn
namespace Go.Proofs.YtcmoffiigpchiaaGreat
open Go.RowKit

/-! Rows of frames, as they lie. -/
def rowOf (c : Hist.En → List Value) (l : List Hist.En) : List Value := l.flatMap c
theorem rowOf_snoc (c : Hist.En → List Value) (l : List Hist.En) (e : Hist.En) : rowOf c (l ++ [e]) = rowOf c l ++ c e := by simp [rowOf]
theorem rowOf_length {c : Hist.En → List Value} {k : Nat} (hc : ∀ e, (c e).length = k) (l : List Hist.En) : (rowOf c l).length = l.length * k := by
  induction l with
  | nil => simp [rowOf]
  | cons a r ih =>
    have : rowOf c (a :: r) = c a ++ rowOf c r := by simp [rowOf]
    rw [this, List.length_append, ih, hc, List.length_cons, Nat.add_mul, Nat.one_mul, Nat.add_comm]
theorem rowOf_at {c : Hist.En → List Value} {k : Nat} (hc : ∀ e, (c e).length = k) : ∀ (l : List Hist.En) (i : Nat) (e : Hist.En), l[i]? = some e → ∀ j v, (c e)[j]? = some v → (rowOf c l)[i * k + j]? = some v := by
  intro l
  induction l with
  | nil => intro i e h; simp at h
  | cons a r ih =>
    intro i e h j v hv
    have hr : rowOf c (a :: r) = c a ++ rowOf c r := by simp [rowOf]
    have hj := (List.getElem?_eq_some_iff.1 hv).1
    rw [hc] at hj
    match i with
    | 0 =>
      simp at h
      subst h
      rw [hr, Nat.zero_mul, Nat.zero_add, List.getElem?_append_left (by rw [hc]; exact hj)]
      exact hv
    | i + 1 =>
      have h' : r[i]? = some e := by simpa using h
      rw [hr, List.getElem?_append_right (by rw [hc, Nat.add_mul]; omega), hc, show (i + 1) * k + j - k = i * k + j by rw [Nat.add_mul]; omega]
      exact ih i e h' j v hv
theorem row_range {w : World} {base : Nat} {T : TypeId} {c : Hist.En → List Value} {k g n cap : Nat} (hc : ∀ e, (c e).length = k) {l : List Hist.En} (h : w.ownsRow base T k (.slice (some ⟨g, 0, none⟩) n cap) n (rowOf c l)) {i : Nat} {e : Hist.En} (hi : l[i]? = some e) : w.rangeAt g (i * k) (c e) := by
  intro j v hv
  have := h.cells (g := g) rfl (i * k + j) v (rowOf_at hc l i e hi j v hv)
  rw [Addr.add_mid, Nat.zero_add] at this
  exact this
theorem fcells_length (e : Hist.En) : e.fcells.length = 15 := rfl
theorem goesOn_last {l : List Hist.En} {a e : Hist.En} (h : l.getLast? = some a) : Hist.goesOn l e = (decide (e.k = (a.k + 1) % 65536) && decide (a.to ≤ e.n)) := by
  unfold Hist.goesOn
  rw [h]

set_option maxRecDepth 100000 in
set_option maxHeartbeats 4000000 in
theorem follows_none (e : Hist.En) (a0 : Option Addr) (cap : Nat) (w : World) :
    Calls Tryz.prog 84 #[.slice a0 0 cap, e.fval] w fun r w' => r = .returned (.bool (Hist.goesOn [] e)) ∧ Below w.heap.size w w' := by
  obtain ⟨st, k, n, ⟨sn, pc, regs, cells, clock, handler, back, pending, halted⟩, ⟨input, ticks, interrupt⟩⟩ := e
  cases st
  all_goals
    simp only [Hist.En.fval, Hist.En.fcells, kindN, Hist.goesOn, List.getLast?_nil]
    go_enter Tryz.func84, Tryz.ntmps84
    go_wp2
    go_ret
    exact ⟨rfl, (Below.refl _ _).alloc (Nat.le_refl _) _⟩

set_option maxRecDepth 100000 in
set_option maxHeartbeats 4000000 in
theorem follows_some (l : List Hist.En) (hlen : l.length < 1000000000000) (a e : Hist.En) (ha : a.Ok) (g cap : Nat) (hla : l.getLast? = some a) (w : World) (hr : w.rangeAt g ((l.length - 1) * 15) a.fcells) (hg : g < w.heap.size) :
    Calls Tryz.prog 84 #[.slice (some ⟨g, 0, none⟩) l.length cap, e.fval] w fun r w' => r = .returned (.bool (Hist.goesOn l e)) ∧ Below w.heap.size w w' := by
  have HN := hide (next_number a.k ha.k)
  have HR := hide (reach_code a ha.n)
  have hl0 : 0 < l.length := by
    cases l with
    | nil => simp at hla
    | cons x r => simp
  obtain ⟨n, hn⟩ : ∃ n, l.length = n + 1 := ⟨l.length - 1, by omega⟩
  have HG := hide (goesOn_last (e := e) hla)
  have hkE : decide (e.k = (a.k + 1) % 65536) = decide (((e.k : Nat) : Int) = (((a.k + 1) % 65536 : Nat) : Int)) := decide_eq_decide.2 (by omega)
  have hnE : decide (a.to ≤ e.n) = decide (((a.to : Nat) : Int) ≤ ((e.n : Nat) : Int)) := decide_eq_decide.2 (by omega)
  rw [hkE, hnE] at HG
  clear hkE hnE
  rw [hn] at hr ⊢
  have hlen' : n + 1 < 1000000000000 := by omega
  generalize Hist.goesOn l e = go at *
  clear hla ha hl0 hlen hn
  rw [show n + 1 - 1 = n by omega] at hr
  generalize (((a.k + 1) % 65536 : Nat) : Int) = ak' at *
  generalize ((a.to : Nat) : Int) = ato at *
  obtain ⟨ast, ak, an, ⟨asn, apc, aregs, acells, aclock, ahandler, aback, apending, ahalted⟩, ⟨ainput, aticks, ainterrupt⟩⟩ := a
  obtain ⟨est, ek, en, ⟨esn, epc, eregs, ecells, eclock, ehandler, eback, epending, ehalted⟩, ⟨einput, eticks, einterrupt⟩⟩ := e
  simp only [Hist.En.fval, Hist.En.fcells] at hr HR HN HG ⊢
  have HRG := hide (rangeAt_below ((Below.refl w.heap.size w).alloc (Nat.le_refl _) (.cells #[.int .u8 (kindN est), .int .i64 ek, .int .i64 en, .int .i64 esn, .int .i64 epc, .string eregs, .string ecells, .int .i64 eclock, .int .i64 ehandler, .int .i64 eback, .bool epending, .bool ehalted, .int .i64 einput, .int .i64 eticks, .bool einterrupt] 116)) hg hr)
  clear hr
  go_enter Tryz.func84, Tryz.ntmps84
  go_upto_region 4 with (refine wpList_load_mid rfl 116 _ rfl g (n * 15) rfl [.int .u8 (kindN ast), .int .i64 ak, .int .i64 an, .int .i64 asn, .int .i64 apc, .string aregs, .string acells, .int .i64 aclock, .int .i64 ahandler, .int .i64 aback, .bool apending, .bool ahalted, .int .i64 ainput, .int .i64 aticks, .bool ainterrupt] _ (unhide HRG) Tryz.underlying116 rfl (by kernel_rfl) ?_)
  have X0 := hide ((Box.new w #[.int .u8 (kindN est), .int .i64 ek, .int .i64 en, .int .i64 esn, .int .i64 epc, .string eregs, .string ecells, .int .i64 eclock, .int .i64 ehandler, .int .i64 eback, .bool epending, .bool ehalted, .int .i64 einput, .int .i64 eticks, .bool einterrupt] 116).alloc (.cells #[.int .u8 (kindN ast), .int .i64 ak, .int .i64 an, .int .i64 asn, .int .i64 apc, .string aregs, .string acells, .int .i64 aclock, .int .i64 ahandler, .int .i64 aback, .bool apending, .bool ahalted, .int .i64 ainput, .int .i64 aticks, .bool ainterrupt] 116))
  have Y0 := hide (Box.new (w.alloc (.cells #[.int .u8 (kindN est), .int .i64 ek, .int .i64 en, .int .i64 esn, .int .i64 epc, .string eregs, .string ecells, .int .i64 eclock, .int .i64 ehandler, .int .i64 eback, .bool epending, .bool ehalted, .int .i64 einput, .int .i64 eticks, .bool einterrupt] 116)) #[.int .u8 (kindN ast), .int .i64 ak, .int .i64 an, .int .i64 asn, .int .i64 apc, .string aregs, .string acells, .int .i64 aclock, .int .i64 ahandler, .int .i64 aback, .bool apending, .bool ahalted, .int .i64 ainput, .int .i64 aticks, .bool ainterrupt] 116)
  have B0 := hide (((Below.refl w.heap.size w).alloc (Nat.le_refl _) (.cells #[.int .u8 (kindN est), .int .i64 ek, .int .i64 en, .int .i64 esn, .int .i64 epc, .string eregs, .string ecells, .int .i64 eclock, .int .i64 ehandler, .int .i64 eback, .bool epending, .bool ehalted, .int .i64 einput, .int .i64 eticks, .bool einterrupt] 116)).alloc (by simp) (.cells #[.int .u8 (kindN ast), .int .i64 ak, .int .i64 an, .int .i64 asn, .int .i64 apc, .string aregs, .string acells, .int .i64 aclock, .int .i64 ahandler, .int .i64 aback, .bool apending, .bool ahalted, .int .i64 ainput, .int .i64 aticks, .bool ainterrupt] 116))
  rw [show (w.alloc (.cells #[.int .u8 (kindN est), .int .i64 ek, .int .i64 en, .int .i64 esn, .int .i64 epc, .string eregs, .string ecells, .int .i64 eclock, .int .i64 ehandler, .int .i64 eback, .bool epending, .bool ehalted, .int .i64 einput, .int .i64 eticks, .bool einterrupt] 116)).heap.size = w.heap.size + 1 by simp] at Y0
  generalize (w.alloc (.cells #[.int .u8 (kindN est), .int .i64 ek, .int .i64 en, .int .i64 esn, .int .i64 epc, .string eregs, .string ecells, .int .i64 eclock, .int .i64 ehandler, .int .i64 eback, .bool epending, .bool ehalted, .int .i64 einput, .int .i64 eticks, .bool einterrupt] 116)).alloc (.cells #[.int .u8 (kindN ast), .int .i64 ak, .int .i64 an, .int .i64 asn, .int .i64 apc, .string aregs, .string acells, .int .i64 aclock, .int .i64 ahandler, .int .i64 aback, .bool apending, .bool ahalted, .int .i64 ainput, .int .i64 aticks, .bool ainterrupt] 116) = wy at *
  obtain ⟨cx, fx, gx⟩ := unhide X0
  obtain ⟨cy, fy, gy⟩ := unhide Y0
  clear gx gy
  by_cases hk : ((ek : Nat) : Int) = ak'
  · have hd : (((ek : Nat) : Int) == ak') = true := by simp [hk]
    have hgo : go = decide (ato ≤ ((en : Nat) : Int)) := by have := unhide HG; simpa [hk] using this
    have HG := hide hgo
    clear hgo hk
    refine region_last2 13 (S := (fun u => u.cell? ⟨w.heap.size, 1, none⟩ = some (.int .i64 ek) ∧ u.cell? ⟨w.heap.size, 2, none⟩ = some (.int .i64 en) ∧ u.cell? ⟨w.heap.size + 1, 0, none⟩ = some (.int .u8 (kindN ast)) ∧ u.cell? ⟨w.heap.size + 1, 1, none⟩ = some (.int .i64 ak) ∧ u.cell? ⟨w.heap.size + 1, 2, none⟩ = some (.int .i64 an) ∧ u.cell? ⟨w.heap.size + 1, 3, none⟩ = some (.int .i64 asn) ∧ u.cell? ⟨w.heap.size + 1, 4, none⟩ = some (.int .i64 apc) ∧ u.cell? ⟨w.heap.size + 1, 5, none⟩ = some (.string aregs) ∧ u.cell? ⟨w.heap.size + 1, 6, none⟩ = some (.string acells) ∧ u.cell? ⟨w.heap.size + 1, 7, none⟩ = some (.int .i64 aclock) ∧ u.cell? ⟨w.heap.size + 1, 8, none⟩ = some (.int .i64 ahandler) ∧ u.cell? ⟨w.heap.size + 1, 9, none⟩ = some (.int .i64 aback) ∧ u.cell? ⟨w.heap.size + 1, 10, none⟩ = some (.bool apending) ∧ u.cell? ⟨w.heap.size + 1, 11, none⟩ = some (.bool ahalted) ∧ u.cell? ⟨w.heap.size + 1, 12, none⟩ = some (.int .i64 ainput) ∧ u.cell? ⟨w.heap.size + 1, 13, none⟩ = some (.int .i64 aticks) ∧ u.cell? ⟨w.heap.size + 1, 14, none⟩ = some (.bool ainterrupt))) _ rfl rfl (by kernel_rfl) (by kernel_rfl) (by first | go_keep | (go_simp; done)) (fun hHeld => ?_)
    simp only [List.pop_toArray, List.dropLast_cons_cons, List.dropLast_singleton]
    refine wpAnyH_take (i := 0) (v := ?_) rfl (by kernel_rfl) (by kernel_rfl) (by kernel_rfl) (fun _ _ _ h => h) (Or.inl ⟨by rfl, ?hy⟩) hHeld ?_
    case hy =>
      simp only [List.getElem_toArray, List.getElem_cons_zero]
      intro w' hSw
      (try dsimp only at hSw)
      go_simp
      with_reducible rfl
    simp only [List.getElem_toArray, List.getElem_cons_zero, Act.put, List.setIfInBounds_toArray, List.set_cons_zero, List.set_cons_succ]
    refine wpAnyH_take (i := 1) (v := ?_) rfl (by kernel_rfl) (by kernel_rfl) (by kernel_rfl) (fun _ _ _ h => h) (Or.inl ⟨by rfl, ?hy⟩) hHeld ?_
    case hy =>
      simp only [List.getElem_toArray, List.getElem_cons_succ, List.getElem_cons_zero]
      intro w' hSw
      (try dsimp only at hSw)
      go_simp
      with_reducible rfl
    simp only [List.getElem_toArray, List.getElem_cons_succ, List.getElem_cons_zero, Act.put, List.setIfInBounds_toArray, List.set_cons_zero, List.set_cons_succ]
    refine wpAnyH_take (i := 2) (v := ?_) rfl (by kernel_rfl) (by kernel_rfl) (by kernel_rfl) (fun _ _ _ h => h) (Or.inl ⟨by rfl, ?hy⟩) hHeld ?_
    case hy =>
      simp only [List.getElem_toArray, List.getElem_cons_succ, List.getElem_cons_zero]
      intro w' hSw
      (try dsimp only at hSw)
      go_simp
      with_reducible rfl
    simp only [List.getElem_toArray, List.getElem_cons_succ, List.getElem_cons_zero, Act.put, List.setIfInBounds_toArray, List.set_cons_zero, List.set_cons_succ]
    refine wpAnyH_take (i := 3) (v := ?_) rfl (by kernel_rfl) (by kernel_rfl) (by kernel_rfl) (fun _ _ _ h => h) (Or.inl ⟨by rfl, ?hy⟩) hHeld ?_
    case hy =>
      simp only [List.getElem_toArray, List.getElem_cons_succ, List.getElem_cons_zero]
      intro w' hSw
      (try dsimp only at hSw)
      go_simp
      with_reducible rfl
    simp only [List.getElem_toArray, List.getElem_cons_succ, List.getElem_cons_zero, Act.put, List.setIfInBounds_toArray, List.set_cons_zero, List.set_cons_succ]
    refine wpAnyH_ready (rs := [4]) (by kernel_rfl) (by simp) ?_
    refine AllReadyH.cons rfl (fun K hK => ?_) AllReadyH.nil
    simp only [List.getElem_toArray, List.getElem_cons_succ, List.getElem_cons_zero]
    rw [if_pos (by simp [Region.wanted])]
    go_wp2_with (go_at_call 111; refine (unhide HN _).mono ?_; rintro e w2 ⟨rfl, hw⟩; obtain rfl := hw.symm)
    refine hK.out _ _ (by first | go_keep | (go_simp; done)) (fun hH1 => ?_)
    clear hK K
    refine wpAnyH_take (i := 5) (v := ?_) rfl (by kernel_rfl) (by kernel_rfl) (by kernel_rfl) (fun _ _ _ h => h) (Or.inl ⟨by rfl, ?hy⟩) hH1 ?_
    case hy =>
      simp only [List.getElem_toArray, List.getElem_cons_succ, List.getElem_cons_zero]
      intro w' hSw
      (try dsimp only at hSw)
      go_simp
      with_reducible rfl
    simp only [List.getElem_toArray, List.getElem_cons_succ, List.getElem_cons_zero, Act.put, List.setIfInBounds_toArray, List.set_cons_zero, List.set_cons_succ]
    refine wpAnyH_take (i := 6) (v := ?_) rfl (by kernel_rfl) (by kernel_rfl) (by kernel_rfl) (fun _ _ _ h => h) (Or.inl ⟨by rfl, ?hy⟩) hH1 ?_
    case hy =>
      simp only [List.getElem_toArray, List.getElem_cons_succ, List.getElem_cons_zero]
      intro w' hSw
      (try dsimp only at hSw)
      go_simp
      with_reducible rfl
    simp only [List.getElem_toArray, List.getElem_cons_succ, List.getElem_cons_zero, Act.put, List.setIfInBounds_toArray, List.set_cons_zero, List.set_cons_succ]
    refine wpAnyH_take (i := 7) (v := ?_) rfl (by kernel_rfl) (by kernel_rfl) (by kernel_rfl) (fun _ _ _ h => h) (Or.inl ⟨by rfl, ?hy⟩) hH1 ?_
    case hy =>
      simp only [List.getElem_toArray, List.getElem_cons_succ, List.getElem_cons_zero]
      intro w' hSw
      (try dsimp only at hSw)
      go_simp
      with_reducible rfl
    simp only [List.getElem_toArray, List.getElem_cons_succ, List.getElem_cons_zero, Act.put, List.setIfInBounds_toArray, List.set_cons_zero, List.set_cons_succ]
    refine wpAnyH_take (i := 8) (v := ?_) rfl (by kernel_rfl) (by kernel_rfl) (by kernel_rfl) (fun _ _ _ h => h) (Or.inl ⟨by rfl, ?hy⟩) hH1 ?_
    case hy =>
      simp only [List.getElem_toArray, List.getElem_cons_succ, List.getElem_cons_zero]
      intro w' hSw
      (try dsimp only at hSw)
      go_simp
      with_reducible rfl
    simp only [List.getElem_toArray, List.getElem_cons_succ, List.getElem_cons_zero, Act.put, List.setIfInBounds_toArray, List.set_cons_zero, List.set_cons_succ]
    refine wpAnyH_take (i := 9) (v := ?_) rfl (by kernel_rfl) (by kernel_rfl) (by kernel_rfl) (fun _ _ _ h => h) (Or.inl ⟨by rfl, ?hy⟩) hH1 ?_
    case hy =>
      simp only [List.getElem_toArray, List.getElem_cons_succ, List.getElem_cons_zero]
      intro w' hSw
      (try dsimp only at hSw)
      go_simp
      with_reducible rfl
    simp only [List.getElem_toArray, List.getElem_cons_succ, List.getElem_cons_zero, Act.put, List.setIfInBounds_toArray, List.set_cons_zero, List.set_cons_succ]
    refine wpAnyH_ready (rs := [10]) (by kernel_rfl) (by simp) ?_
    refine AllReadyH.cons rfl (fun K hK => ?_) AllReadyH.nil
    simp only [List.getElem_toArray, List.getElem_cons_succ, List.getElem_cons_zero]
    rw [if_pos (by rfl)]
    go_wp2_with (go_at_call 85; refine (unhide HR _).mono ?_; rintro e w3 ⟨rfl, hb⟩; have L3 := hide (bel_undrew hb); clear hb; have X3 := hide ((unhide X0).next (unhide L3)); have Y3 := hide ((unhide Y0).next (unhide L3)); obtain ⟨cx3, fx3, gx3⟩ := unhide X3; obtain ⟨cy3, fy3, gy3⟩ := unhide Y3; clear gx3 gy3)
    refine hK.out _ _ (by first | go_keep | (go_simp; done)) (fun hH2 => ?_)
    clear hK K
    refine wpAnyH_take (i := 11) (v := ?_) rfl (by kernel_rfl) (by kernel_rfl) (by kernel_rfl) (fun _ _ _ h => h) (Or.inl ⟨by rfl, ?hy⟩) hH2 ?_
    case hy =>
      simp only [List.getElem_toArray, List.getElem_cons_succ, List.getElem_cons_zero]
      intro w' hSw
      (try dsimp only at hSw)
      go_simp
      with_reducible rfl
    simp only [List.getElem_toArray, List.getElem_cons_succ, List.getElem_cons_zero, Act.put, List.setIfInBounds_toArray, List.set_cons_zero, List.set_cons_succ]
    refine wpAnyH_take (i := 12) (v := ?_) rfl (by kernel_rfl) (by kernel_rfl) (by kernel_rfl) (fun _ _ _ h => h) (Or.inl ⟨by rfl, ?hy⟩) hH2 ?_
    case hy =>
      simp only [List.getElem_toArray, List.getElem_cons_succ, List.getElem_cons_zero]
      intro w' hSw
      (try dsimp only at hSw)
      go_simp
      with_reducible rfl
    simp only [List.getElem_toArray, List.getElem_cons_succ, List.getElem_cons_zero, Act.put, List.setIfInBounds_toArray, List.set_cons_zero, List.set_cons_succ]
    refine wpAnyH_done (by kernel_rfl) ?_ _
    refine last_step rfl (fun K hK => ?_)
    go_simp
    refine (unhide hK) _ _ ?_
    clear hK K
    go_wp2_with fail
    go_ret
    exact ⟨by rw [unhide HG]; rfl, bel_then (unhide B0) (unhide L3)⟩
  · have hd : (((ek : Nat) : Int) == ak') = false := by simp [hk]
    have hgo : go = false := by have := unhide HG; simpa [hk] using this
    have HG := hide hgo
    clear hgo hk
    refine region_last2 13 (S := (fun u => u.cell? ⟨w.heap.size, 1, none⟩ = some (.int .i64 ek) ∧ u.cell? ⟨w.heap.size, 2, none⟩ = some (.int .i64 en) ∧ u.cell? ⟨w.heap.size + 1, 0, none⟩ = some (.int .u8 (kindN ast)) ∧ u.cell? ⟨w.heap.size + 1, 1, none⟩ = some (.int .i64 ak) ∧ u.cell? ⟨w.heap.size + 1, 2, none⟩ = some (.int .i64 an) ∧ u.cell? ⟨w.heap.size + 1, 3, none⟩ = some (.int .i64 asn) ∧ u.cell? ⟨w.heap.size + 1, 4, none⟩ = some (.int .i64 apc) ∧ u.cell? ⟨w.heap.size + 1, 5, none⟩ = some (.string aregs) ∧ u.cell? ⟨w.heap.size + 1, 6, none⟩ = some (.string acells) ∧ u.cell? ⟨w.heap.size + 1, 7, none⟩ = some (.int .i64 aclock) ∧ u.cell? ⟨w.heap.size + 1, 8, none⟩ = some (.int .i64 ahandler) ∧ u.cell? ⟨w.heap.size + 1, 9, none⟩ = some (.int .i64 aback) ∧ u.cell? ⟨w.heap.size + 1, 10, none⟩ = some (.bool apending) ∧ u.cell? ⟨w.heap.size + 1, 11, none⟩ = some (.bool ahalted) ∧ u.cell? ⟨w.heap.size + 1, 12, none⟩ = some (.int .i64 ainput) ∧ u.cell? ⟨w.heap.size + 1, 13, none⟩ = some (.int .i64 aticks) ∧ u.cell? ⟨w.heap.size + 1, 14, none⟩ = some (.bool ainterrupt))) _ rfl rfl (by kernel_rfl) (by kernel_rfl) (by first | go_keep | (go_simp; done)) (fun hHeld => ?_)
    simp only [List.pop_toArray, List.dropLast_cons_cons, List.dropLast_singleton]
    refine wpAnyH_take (i := 0) (v := ?_) rfl (by kernel_rfl) (by kernel_rfl) (by kernel_rfl) (fun _ _ _ h => h) (Or.inl ⟨by rfl, ?hy⟩) hHeld ?_
    case hy =>
      simp only [List.getElem_toArray, List.getElem_cons_zero]
      intro w' hSw
      (try dsimp only at hSw)
      go_simp
      with_reducible rfl
    simp only [List.getElem_toArray, List.getElem_cons_zero, Act.put, List.setIfInBounds_toArray, List.set_cons_zero, List.set_cons_succ]
    refine wpAnyH_take (i := 1) (v := ?_) rfl (by kernel_rfl) (by kernel_rfl) (by kernel_rfl) (fun _ _ _ h => h) (Or.inl ⟨by rfl, ?hy⟩) hHeld ?_
    case hy =>
      simp only [List.getElem_toArray, List.getElem_cons_succ, List.getElem_cons_zero]
      intro w' hSw
      (try dsimp only at hSw)
      go_simp
      with_reducible rfl
    simp only [List.getElem_toArray, List.getElem_cons_succ, List.getElem_cons_zero, Act.put, List.setIfInBounds_toArray, List.set_cons_zero, List.set_cons_succ]
    refine wpAnyH_take (i := 2) (v := ?_) rfl (by kernel_rfl) (by kernel_rfl) (by kernel_rfl) (fun _ _ _ h => h) (Or.inl ⟨by rfl, ?hy⟩) hHeld ?_
    case hy =>
      simp only [List.getElem_toArray, List.getElem_cons_succ, List.getElem_cons_zero]
      intro w' hSw
      (try dsimp only at hSw)
      go_simp
      with_reducible rfl
    simp only [List.getElem_toArray, List.getElem_cons_succ, List.getElem_cons_zero, Act.put, List.setIfInBounds_toArray, List.set_cons_zero, List.set_cons_succ]
    refine wpAnyH_take (i := 3) (v := ?_) rfl (by kernel_rfl) (by kernel_rfl) (by kernel_rfl) (fun _ _ _ h => h) (Or.inl ⟨by rfl, ?hy⟩) hHeld ?_
    case hy =>
      simp only [List.getElem_toArray, List.getElem_cons_succ, List.getElem_cons_zero]
      intro w' hSw
      (try dsimp only at hSw)
      go_simp
      with_reducible rfl
    simp only [List.getElem_toArray, List.getElem_cons_succ, List.getElem_cons_zero, Act.put, List.setIfInBounds_toArray, List.set_cons_zero, List.set_cons_succ]
    refine wpAnyH_ready (rs := [4]) (by kernel_rfl) (by simp) ?_
    refine AllReadyH.cons rfl (fun K hK => ?_) AllReadyH.nil
    simp only [List.getElem_toArray, List.getElem_cons_succ, List.getElem_cons_zero]
    rw [if_pos (by simp [Region.wanted])]
    go_wp2_with (go_at_call 111; refine (unhide HN _).mono ?_; rintro e w2 ⟨rfl, hw⟩; obtain rfl := hw.symm)
    refine hK.out _ _ (by first | go_keep | (go_simp; done)) (fun hH1 => ?_)
    clear hK K
    refine wpAnyH_take (i := 5) (v := ?_) rfl (by kernel_rfl) (by kernel_rfl) (by kernel_rfl) (fun _ _ _ h => h) (Or.inl ⟨by rfl, ?hy⟩) hH1 ?_
    case hy =>
      simp only [List.getElem_toArray, List.getElem_cons_succ, List.getElem_cons_zero]
      intro w' hSw
      (try dsimp only at hSw)
      go_simp
      with_reducible rfl
    simp only [List.getElem_toArray, List.getElem_cons_succ, List.getElem_cons_zero, Act.put, List.setIfInBounds_toArray, List.set_cons_zero, List.set_cons_succ]
    refine wpAnyH_take (i := 6) (v := ?_) rfl (by kernel_rfl) (by kernel_rfl) (by kernel_rfl) (fun _ _ _ h => h) (Or.inl ⟨by rfl, ?hy⟩) hH1 ?_
    case hy =>
      simp only [List.getElem_toArray, List.getElem_cons_succ, List.getElem_cons_zero]
      intro w' hSw
      (try dsimp only at hSw)
      go_simp
      with_reducible rfl
    simp only [List.getElem_toArray, List.getElem_cons_succ, List.getElem_cons_zero, Act.put, List.setIfInBounds_toArray, List.set_cons_zero, List.set_cons_succ]
    refine wpAnyH_take (i := 7) (v := undef) rfl (by kernel_rfl) (by kernel_rfl) (by kernel_rfl) (fun _ _ _ h => h) (Or.inr ⟨by rfl, rfl⟩) hH1 ?_
    simp only [List.getElem_toArray, List.getElem_cons_succ, List.getElem_cons_zero, Act.put, List.setIfInBounds_toArray, List.set_cons_zero, List.set_cons_succ]
    refine wpAnyH_take (i := 8) (v := undef) rfl (by kernel_rfl) (by kernel_rfl) (by kernel_rfl) (fun _ _ _ h => h) (Or.inr ⟨by rfl, rfl⟩) hH1 ?_
    simp only [List.getElem_toArray, List.getElem_cons_succ, List.getElem_cons_zero, Act.put, List.setIfInBounds_toArray, List.set_cons_zero, List.set_cons_succ]
    refine wpAnyH_take (i := 9) (v := undef) rfl (by kernel_rfl) (by kernel_rfl) (by kernel_rfl) (fun _ _ _ h => h) (Or.inr ⟨by rfl, rfl⟩) hH1 ?_
    simp only [List.getElem_toArray, List.getElem_cons_succ, List.getElem_cons_zero, Act.put, List.setIfInBounds_toArray, List.set_cons_zero, List.set_cons_succ]
    refine wpAnyH_take (i := 10) (v := undef) rfl (by kernel_rfl) (by kernel_rfl) (by kernel_rfl) (fun _ _ _ h => h) (Or.inr ⟨by rfl, rfl⟩) hH1 ?_
    simp only [List.getElem_toArray, List.getElem_cons_succ, List.getElem_cons_zero, Act.put, List.setIfInBounds_toArray, List.set_cons_zero, List.set_cons_succ]
    refine wpAnyH_take (i := 11) (v := undef) rfl (by kernel_rfl) (by kernel_rfl) (by kernel_rfl) (fun _ _ _ h => h) (Or.inr ⟨by rfl, rfl⟩) hH1 ?_
    simp only [List.getElem_toArray, List.getElem_cons_succ, List.getElem_cons_zero, Act.put, List.setIfInBounds_toArray, List.set_cons_zero, List.set_cons_succ]
    refine wpAnyH_take (i := 12) (v := ?_) rfl (by kernel_rfl) (by kernel_rfl) (by kernel_rfl) (fun _ _ _ h => h) (Or.inl ⟨by rfl, ?hy⟩) hH1 ?_
    case hy =>
      simp only [List.getElem_toArray, List.getElem_cons_succ, List.getElem_cons_zero]
      intro w' hSw
      (try dsimp only at hSw)
      go_simp
      with_reducible rfl
    simp only [List.getElem_toArray, List.getElem_cons_succ, List.getElem_cons_zero, Act.put, List.setIfInBounds_toArray, List.set_cons_zero, List.set_cons_succ]
    refine wpAnyH_done (by kernel_rfl) ?_ _
    refine last_step rfl (fun K hK => ?_)
    go_simp
    refine (unhide hK) _ _ ?_
    clear hK K
    go_wp2_with fail
    go_ret
    exact ⟨by rw [unhide HG]; rfl, Below.drew (unhide B0)⟩
end Go.Proofs.YtcmoffiigpchiaaGreat

namespace Go.Proofs.YtcmoffiigpchiaaGreat
open Go.RowKit

theorem infoFrame : (Tryz.prog.info? 116).map (fun i => (i.zero, i.size, i.bytes)) = some (some (.agg #[.int .u8 0, .int .i64 0, .int .i64 0, .int .i64 0, .int .i64 0, .string ⟨#[]⟩, .string ⟨#[]⟩, .int .i64 0, .int .i64 0, .int .i64 0, .bool false, .bool false, .int .i64 0, .int .i64 0, .bool false]), 15, 128) := by kernel_rfl

def lenOf : Value → Nat
  | .string s => s.size
  | _ => 0
/-- A run that a call made for itself. -/
def FRow (w wr : World) (v : Value) (l : List Hist.En) : Prop :=
  ∃ g cap, v = .slice (some ⟨g, 0, none⟩) l.length cap ∧ wr.ownsRow w.heap.size 116 15 v l.length (rowOf Hist.En.fcells l) ∧ Below w.heap.size w wr
theorem FRow.made (w : World) : FRow w (w.alloc (.cells #[] 116)) (.slice (some ⟨w.heap.size, 0, none⟩) 0 0) [] :=
  ⟨_, 0, rfl, World.ownsRow_made w #[] 0 (Nat.le_refl _) (Nat.zero_le _) (by simp), (Below.refl _ _).alloc (Nat.le_refl _) _⟩
theorem own_next {w wr w1 : World} {T : TypeId} {k g n cap : Nat} {xs : List Value} (h : wr.ownsRow w.heap.size T k (.slice (some ⟨g, 0, none⟩) n cap) n xs) (hb : Below wr.heap.size wr w1) : w1.ownsRow w.heap.size T k (.slice (some ⟨g, 0, none⟩) n cap) n xs := by
  have hlt := (h.lt g rfl).2
  obtain ⟨hl, hv⟩ := h
  refine ⟨hl, ?_⟩
  rcases hv with hv | ⟨g2, c2, cur, hv, h0, hgg, a1, a2, a3, a4⟩
  · exact .inl hv
  · simp at hv
    obtain ⟨rfl, rfl⟩ := hv
    exact .inr ⟨g, cap, cur, rfl, h0, by rw [hb.block g hlt]; exact hgg, a1, a2, a3, a4⟩
theorem FRow.next {w wr w1 : World} {v : Value} {l : List Hist.En} (h : FRow w wr v l) (hb : Below wr.heap.size wr w1) : FRow w w1 v l := by
  obtain ⟨g, cap, rfl, ho, h1⟩ := h
  exact ⟨g, cap, rfl, own_next ho hb, h1.trans (hb.mono h1.size)⟩
/-- Whether a frame goes on with a run that lies so. -/
theorem follows_code {w wr : World} {l : List Hist.En} {g cap : Nat} (hR : Hist.IsRun l) (hlen : l.length < 1000000000000) (ho : wr.ownsRow w.heap.size 116 15 (.slice (some ⟨g, 0, none⟩) l.length cap) l.length (rowOf Hist.En.fcells l)) (e : Hist.En) :
    Calls Tryz.prog 84 #[.slice (some ⟨g, 0, none⟩) l.length cap, e.fval] wr fun r w' => r = .returned (.bool (Hist.goesOn l e)) ∧ Below wr.heap.size wr w' := by
  cases hl : l.getLast? with
  | none =>
    have : l = [] := by simpa using hl
    subst this
    exact follows_none e _ cap wr
  | some a =>
    have hi : l[l.length - 1]? = some a := by rw [← List.getLast?_eq_getElem?]; exact hl
    exact follows_some l hlen a e (hR.ok a (List.mem_of_getElem? hi)) g cap hl wr (row_range fcells_length ho hi) (ho.lt g rfl).2
theorem news_cells (w : World) (cs : List Value) (t : TypeId) : ∀ j u, cs[j]? = some u → (w.alloc (.cells cs.toArray t)).cell? ((⟨w.heap.size, 0, none⟩ : Addr).add j) = some u := by
  intro j u hu
  rw [Addr.add_mid, Nat.zero_add, World.cell?_alloc_mark]
  simpa using hu
theorem one_f (e : Hist.En) : ∀ u ∈ e.fcells, u.oneCell' = true := by
  intro u hu
  simp [Hist.En.fcells] at hu
  rcases hu with rfl | rfl | rfl | rfl | rfl | rfl | rfl | rfl | rfl | rfl | rfl | rfl | rfl | rfl | rfl <;> rfl
theorem FRow.snoc {w wr w1 : World} {g cap n : Nat} {l : List Hist.En} {v' : Value} {e : Hist.En} {o : Obj} (hn : l.length = n)
    (hg : wr.ownsRow w.heap.size 116 15 (.slice (some ⟨g, 0, none⟩) n cap) n (rowOf Hist.En.fcells l)) (hb : Below w.heap.size w wr)
    (h1 : w1.ownsRow w.heap.size 116 15 v' (n + 1) (rowOf Hist.En.fcells l ++ e.fcells)) (h2 : (wr.alloc o).grownBy w1 (Value.slice (some ⟨g, 0, none⟩) n cap).ownBlock) :
    FRow w w1 v' (l ++ [e]) := by
  subst hn
  have hlt := hg.lt g rfl
  have hbel : Below w.heap.size w w1 := (hb.alloc hb.size o).grown h2 (by have := hb.size; simp; omega) (fun k hk => by
    simp [Value.ownBlock] at hk
    omega)
  have hl : (l ++ [e]).length = l.length + 1 := by simp
  rcases h1.2 with ⟨_, h0⟩ | ⟨g', cap', cur, hv, _⟩
  · omega
  · exact ⟨g', cap', by rw [hl]; exact hv, by rw [hl, rowOf_snoc]; exact h1, hbel⟩
namespace Hist
theorem runs_none (t : ByteArray) (f i : Nat) (l : List En) (h : read (t.extract (40 * i) (40 * i + 40)) = none) : runs t (f + 1) i l = l := by
  unfold runs; rw [h]
theorem runs_stop (t : ByteArray) (f i : Nat) (l : List En) (e : En) (h : read (t.extract (40 * i) (40 * i + 40)) = some e) (hg : goesOn l e = false) : runs t (f + 1) i l = l := by
  unfold runs; rw [h]; simp [hg]
theorem runs_more (t : ByteArray) (f i : Nat) (l : List En) (e : En) (h : read (t.extract (40 * i) (40 * i + 40)) = some e) (hg : goesOn l e = true) : runs t (f + 1) i l = runs t f (i + 1) (l ++ [e]) := by
  conv => lhs; unfold runs
  rw [h]; simp [hg]
end Hist

set_option maxRecDepth 100000 in
set_option maxHeartbeats 4000000 in
theorem run_code (t : ByteArray) (ht : t.size ≤ 1048576) (w : World) :
    Calls Tryz.prog 57 #[.string t] w fun e w' => ∃ v, e = .returned v ∧ FRow w w' v (Hist.run t) := by
  obtain ⟨i0, hi, hz0, hz1, hz2⟩ := info_parts infoFrame
  go_enter Tryz.func57, Tryz.ntmps57
  go_wp2_with fail
  go_loopw [0, 3] (fun x r wr => ∃ (i : Nat) (l : List Hist.En), x = .string (t.extract (40 * i) t.size) ∧ l.length = i ∧ 40 * i ≤ t.size ∧ Hist.run t = Hist.runs t (t.size / 40 - i) i l ∧ Hist.IsRun l ∧ FRow w wr r l) (fun x _ _ => lenOf x)
  case atStart => exact ⟨0, [], by simp, rfl, by omega, rfl, Hist.isRun_nil, FRow.made w⟩
  case round =>
    obtain ⟨i, l, rfl, hl, hle, hrun, hR, g, cap, rfl, hown, hb⟩ := hrel
    subst hl
    have hus := size_ex t (a := 40 * l.length) (Nat.le_refl t.size)
    have hnx : 40 * l.length + 40 ≤ t.size → (t.extract (40 * l.length) t.size).extract 40 (t.extract (40 * l.length) t.size).size = t.extract (40 * (l.length + 1)) t.size := fun h => by
      rw [hus, ex_ex t (Nat.le_refl _) (by omega), show 40 * l.length + 40 = 40 * (l.length + 1) by omega, show 40 * l.length + (t.size - 40 * l.length) = t.size by omega]
    have hfr : 40 * l.length + 40 ≤ t.size → (t.extract (40 * l.length) t.size).extract 0 40 = t.extract (40 * l.length) (40 * l.length + 40) := fun h => by
      rw [ex_ex t (Nat.le_refl _) (by omega), Nat.add_zero]
    generalize t.extract (40 * l.length) t.size = u at *
    have HUS := hide hus
    have HO := hide hown
    have HB := hide hb
    have HR := hide hR
    clear hown hb hR
    by_cases h40 : 40 ≤ u.size
    · clear hus
      have hus := unhide HUS
      have hfr := hfr (by omega)
      have HNX := hide (hnx (by omega))
      clear hnx
      obtain ⟨f, hf⟩ : ∃ f, t.size / 40 - l.length = f + 1 := ⟨t.size / 40 - l.length - 1, by omega⟩
      rw [hf] at hrun
      have hsz : (u.extract 0 40).size = 40 := by rw [size_ex u h40]
      have HRd := hide (read_code (u.extract 0 40) hsz)
      have hl6 : l.length < 1000000 := by omega
      have hsz2 : (t.extract (40 * l.length) (40 * l.length + 40)).size = 40 := by rw [← hfr]; exact hsz
      have hle2 : 40 * (l.length + 1) ≤ t.size := by omega
      have hf2 : t.size / 40 - (l.length + 1) = f := by omega
      clear hus hle
      cases hrd : Hist.read (u.extract 0 40) with
      | none =>
        rw [hfr] at hrd
        rw [Hist.runs_none t f l.length l hrd] at hrun
        rw [← hfr] at hrd
        rw [hrd] at HRd
        have HRN := hide hrun
        clear hrun hrd hfr hf
        go_wp2_with fail
        refine (unhide HRd _).mono ?_
        rintro e w1 ⟨v, rfl, hv, ⟨kd, k, n, ⟨sn, pc, regs, cells, clock, handler, back, pending, halted⟩, ⟨input, ticks, interrupt⟩, rfl⟩, hb⟩
        have HB1 := hide hb
        clear hv hb
        go_wp2_with fail
        go_ret
        refine ⟨_, rfl, ?_⟩
        rw [unhide HRN]
        exact (FRow.next ⟨g, cap, rfl, unhide HO, unhide HB⟩ (unhide HB1)).next ((Below.refl _ _).alloc (Nat.le_refl _) _)
      | some en =>
        rw [hfr] at hrd
        have hok := Hist.read_ok hsz2 hrd
        have HFo := fun wr => hide (fun (ho : World.ownsRow wr w.heap.size 116 15 (.slice (some ⟨g, 0, none⟩) l.length cap) l.length (rowOf Hist.En.fcells l)) => follows_code (w := w) (unhide HR) (by omega) ho en)
        cases hgo : Hist.goesOn l en with
        | false =>
          rw [Hist.runs_stop t f l.length l en hrd hgo] at hrun
          rw [← hfr] at hrd
          rw [hrd] at HRd
          rw [hgo] at HFo
          have HRN := hide hrun
          clear hrun hrd hfr hf hgo hok
          obtain ⟨est, ek, en', ⟨esn, epc, eregs, ecells, eclock, ehandler, eback, epending, ehalted⟩, ⟨einput, eticks, einterrupt⟩⟩ := en
          go_wp2_with fail
          refine (unhide HRd _).mono ?_
          rintro e w1 ⟨v, rfl, hv, _, hb⟩
          obtain rfl := hv _ rfl
          have HB1 := hide hb
          clear hv hb
          simp only [Hist.En.fval, Hist.En.fcells] at HFo ⊢
          go_wp2_with fail
          have O2 := hide (own_next (own_next (unhide HO) (unhide HB1)) ((Below.refl w1.heap.size w1).alloc (Nat.le_refl _) (.cells #[.int .u8 (kindN est), .int .i64 ek, .int .i64 en', .int .i64 esn, .int .i64 epc, .string eregs, .string ecells, .int .i64 eclock, .int .i64 ehandler, .int .i64 eback, .bool epending, .bool ehalted, .int .i64 einput, .int .i64 eticks, .bool einterrupt] 116)))
          refine (unhide (HFo _) (unhide O2)).mono ?_
          rintro e w2 ⟨rfl, hb⟩
          have HB2 := hide hb
          clear hb
          go_wp2_with fail
          go_ret
          refine ⟨_, rfl, ?_⟩
          rw [unhide HRN]
          exact ((FRow.next ⟨g, cap, rfl, unhide HO, unhide HB⟩ (unhide HB1)).next ((Below.refl _ _).alloc (Nat.le_refl _) _)).next (unhide HB2)
        | true =>
          rw [Hist.runs_more t f l.length l en hrd hgo] at hrun
          rw [← hfr] at hrd
          rw [hrd] at HRd
          have HRN := hide hrun
          have HR2 := hide (Hist.isRun_snoc (unhide HR) hok hgo)
          rw [hgo] at HFo
          clear hrun hrd hfr hf hgo hok
          obtain ⟨est, ek, en', ⟨esn, epc, eregs, ecells, eclock, ehandler, eback, epending, ehalted⟩, ⟨einput, eticks, einterrupt⟩⟩ := en
          go_wp2_with fail
          refine (unhide HRd _).mono ?_
          rintro e w1 ⟨v, rfl, hv, _, hb⟩
          obtain rfl := hv _ rfl
          have HB1 := hide hb
          clear hv hb
          simp only [Hist.En.fval, Hist.En.fcells] at HFo ⊢
          go_wp2_with fail
          have O2 := hide (own_next (own_next (unhide HO) (unhide HB1)) ((Below.refl w1.heap.size w1).alloc (Nat.le_refl _) (.cells #[.int .u8 (kindN est), .int .i64 ek, .int .i64 en', .int .i64 esn, .int .i64 epc, .string eregs, .string ecells, .int .i64 eclock, .int .i64 ehandler, .int .i64 eback, .bool epending, .bool ehalted, .int .i64 einput, .int .i64 eticks, .bool einterrupt] 116)))
          refine (unhide (HFo _) (unhide O2)).mono ?_
          rintro e w2 ⟨rfl, hb⟩
          have X2 := hide ((Box.new w1 #[.int .u8 (kindN est), .int .i64 ek, .int .i64 en', .int .i64 esn, .int .i64 epc, .string eregs, .string ecells, .int .i64 eclock, .int .i64 ehandler, .int .i64 eback, .bool epending, .bool ehalted, .int .i64 einput, .int .i64 eticks, .bool einterrupt] 116).next hb)
          have O3 := hide (own_next (unhide O2) hb)
          have B3 := hide ((((unhide HB).trans ((unhide HB1).mono (unhide HB).size)).alloc (Nat.le_trans (unhide HB).size (unhide HB1).size) (.cells #[.int .u8 (kindN est), .int .i64 ek, .int .i64 en', .int .i64 esn, .int .i64 epc, .string eregs, .string ecells, .int .i64 eclock, .int .i64 ehandler, .int .i64 eback, .bool epending, .bool ehalted, .int .i64 einput, .int .i64 eticks, .bool einterrupt] 116)).trans (hb.mono (by have h1 := (unhide HB).size; have h2 := (unhide HB1).size; simp; omega)))
          clear hb O2
          obtain ⟨cx, fx, gx⟩ := unhide X2
          clear gx
          have hw2 := (unhide B3).size
          go_wp2_with (at_builtin; refine wpList_append_own _ rfl _ _ 81 rfl w.heap.size 116 i0 (.agg #[.int .u8 0, .int .i64 0, .int .i64 0, .int .i64 0, .int .i64 0, .string ⟨#[]⟩, .string ⟨#[]⟩, .int .i64 0, .int .i64 0, .int .i64 0, .bool false, .bool false, .int .i64 0, .int .i64 0, .bool false]) 15 128 Tryz.underlying81 hi hz0 hz1 hz2 rfl (by decide) _ _ _ rfl ((unhide O3).alloc _) ⟨w2.heap.size, 0, none⟩ 1 1 [.int .u8 (kindN est), .int .i64 ek, .int .i64 en', .int .i64 esn, .int .i64 epc, .string eregs, .string ecells, .int .i64 eclock, .int .i64 ehandler, .int .i64 eback, .bool epending, .bool ehalted, .int .i64 einput, .int .i64 eticks, .bool einterrupt] rfl rfl (news_cells w2 _ _) (one_f ⟨est, ek, en', ⟨esn, epc, eregs, ecells, eclock, ehandler, eback, epending, ehalted⟩, ⟨einput, eticks, einterrupt⟩⟩) (by unfold maxLen; omega) (by omega) (by simp; omega) ?_; intro v' w3 hown' hgrow _; have O4 := hide hown'; have G4 := hide hgrow; clear hown' hgrow)
          go_roundw
          case rel => exact ⟨l.length + 1, l ++ [⟨est, ek, en', ⟨esn, epc, eregs, ecells, eclock, ehandler, eback, epending, ehalted⟩, ⟨einput, eticks, einterrupt⟩⟩], by rw [unhide HNX], by simp, hle2, by rw [hf2]; exact unhide HRN, unhide HR2, FRow.snoc (e := ⟨est, ek, en', ⟨esn, epc, eregs, ecells, eclock, ehandler, eback, epending, ehalted⟩, ⟨einput, eticks, einterrupt⟩⟩) rfl (unhide O3) (unhide B3) (unhide O4) (unhide G4)⟩
          case measure =>
            show (u.extract 40 u.size).size < u.size
            rw [size_ex u (Nat.le_refl _)]
            omega
    · have HRN : Hid (Hist.run t = l) := hide (by
        have hus := unhide HUS
        rw [hrun, show t.size / 40 - l.length = 0 by omega]
        rfl)
      clear hrun hfr hnx hus
      go_wp2_with fail
      go_ret
      refine ⟨_, rfl, ?_⟩
      rw [unhide HRN]
      exact ⟨g, cap, rfl, unhide HO, unhide HB⟩
end Go.Proofs.YtcmoffiigpchiaaGreat

namespace Go.Proofs.YtcmoffiigpchiaaGreat
open Go.RowKit

set_option maxRecDepth 100000 in
set_option maxHeartbeats 4000000 in
theorem span_none (a0 : Option Addr) (cap : Nat) (w : World) :
    Calls Tryz.prog 58 #[.slice a0 0 cap] w fun e w' => e = .returned (.tuple #[.int .i64 0, .int .i64 0, .int .i64 6]) ∧ w' = w := by
  go_enter Tryz.func58, Tryz.ntmps58
  go_wp2
  refine bodyPost_ret (v := .tuple #[.int .i64 0, .int .i64 0, .int .i64 6]) (by simp [results, Tryz.results58, go_sem]) rfl ⟨rfl, rfl⟩

set_option maxRecDepth 100000 in
set_option maxHeartbeats 4000000 in
theorem span_some (n : Nat) (hlen : n + 1 < 1000000000000) (a : Hist.En) (ha : a.Ok) (fn : Int) (g cap : Nat) (w : World) (hr : w.rangeAt g (n * 15) a.fcells) (h2 : w.cell? ⟨g, 2, none⟩ = some (.int .i64 fn)) (hg : g < w.heap.size) :
    Calls Tryz.prog 58 #[.slice (some ⟨g, 0, none⟩) (n + 1) cap] w fun e w' => e = .returned (.tuple #[.int .i64 fn, .int .i64 (a.to : Nat), .int .i64 0]) ∧ Below w.heap.size w w' := by
  have HR := hide (reach_code a ha.n)
  clear ha
  generalize ((a.to : Nat) : Int) = ato at *
  obtain ⟨ast, ak, an, ⟨asn, apc, aregs, acells, aclock, ahandler, aback, apending, ahalted⟩, ⟨ainput, aticks, ainterrupt⟩⟩ := a
  simp only [Hist.En.fval, Hist.En.fcells] at hr HR
  have HRG := hide hr
  have H2 := hide h2
  clear hr h2
  go_enter Tryz.func58, Tryz.ntmps58
  go_upto_region 4 with (refine wpList_load_mid rfl 116 _ rfl g (n * 15) rfl [.int .u8 (kindN ast), .int .i64 ak, .int .i64 an, .int .i64 asn, .int .i64 apc, .string aregs, .string acells, .int .i64 aclock, .int .i64 ahandler, .int .i64 aback, .bool apending, .bool ahalted, .int .i64 ainput, .int .i64 aticks, .bool ainterrupt] _ (unhide HRG) Tryz.underlying116 rfl (by kernel_rfl) ?_)
  have Y0 := hide (Box.new w #[.int .u8 (kindN ast), .int .i64 ak, .int .i64 an, .int .i64 asn, .int .i64 apc, .string aregs, .string acells, .int .i64 aclock, .int .i64 ahandler, .int .i64 aback, .bool apending, .bool ahalted, .int .i64 ainput, .int .i64 aticks, .bool ainterrupt] 116)
  have B0 := hide ((Below.refl w.heap.size w).alloc (Nat.le_refl _) (.cells #[.int .u8 (kindN ast), .int .i64 ak, .int .i64 an, .int .i64 asn, .int .i64 apc, .string aregs, .string acells, .int .i64 aclock, .int .i64 ahandler, .int .i64 aback, .bool apending, .bool ahalted, .int .i64 ainput, .int .i64 aticks, .bool ainterrupt] 116))
  have c2 : (w.alloc (.cells #[.int .u8 (kindN ast), .int .i64 ak, .int .i64 an, .int .i64 asn, .int .i64 apc, .string aregs, .string acells, .int .i64 aclock, .int .i64 ahandler, .int .i64 aback, .bool apending, .bool ahalted, .int .i64 ainput, .int .i64 aticks, .bool ainterrupt] 116)).cell? ⟨g, 2, none⟩ = some (.int .i64 fn) := by
    rw [(unhide B0).cell (p := ⟨g, 2, none⟩) hg]; exact unhide H2
  generalize w.alloc (.cells #[.int .u8 (kindN ast), .int .i64 ak, .int .i64 an, .int .i64 asn, .int .i64 apc, .string aregs, .string acells, .int .i64 aclock, .int .i64 ahandler, .int .i64 aback, .bool apending, .bool ahalted, .int .i64 ainput, .int .i64 aticks, .bool ainterrupt] 116) = wy at *
  obtain ⟨cy, fy, gy⟩ := unhide Y0
  have hgy : g < wy.heap.size := by omega
  clear gy
  refine region_last2 8 (S := (fun u => u.cell? ⟨g, 2, none⟩ = some (.int .i64 fn) ∧ u.cell? ⟨w.heap.size, 0, none⟩ = some (.int .u8 (kindN ast)) ∧ u.cell? ⟨w.heap.size, 1, none⟩ = some (.int .i64 ak) ∧ u.cell? ⟨w.heap.size, 2, none⟩ = some (.int .i64 an) ∧ u.cell? ⟨w.heap.size, 3, none⟩ = some (.int .i64 asn) ∧ u.cell? ⟨w.heap.size, 4, none⟩ = some (.int .i64 apc) ∧ u.cell? ⟨w.heap.size, 5, none⟩ = some (.string aregs) ∧ u.cell? ⟨w.heap.size, 6, none⟩ = some (.string acells) ∧ u.cell? ⟨w.heap.size, 7, none⟩ = some (.int .i64 aclock) ∧ u.cell? ⟨w.heap.size, 8, none⟩ = some (.int .i64 ahandler) ∧ u.cell? ⟨w.heap.size, 9, none⟩ = some (.int .i64 aback) ∧ u.cell? ⟨w.heap.size, 10, none⟩ = some (.bool apending) ∧ u.cell? ⟨w.heap.size, 11, none⟩ = some (.bool ahalted) ∧ u.cell? ⟨w.heap.size, 12, none⟩ = some (.int .i64 ainput) ∧ u.cell? ⟨w.heap.size, 13, none⟩ = some (.int .i64 aticks) ∧ u.cell? ⟨w.heap.size, 14, none⟩ = some (.bool ainterrupt))) _ rfl rfl (by kernel_rfl) (by kernel_rfl) (by first | go_keep | (go_simp; done)) (fun hHeld => ?_)
  simp only [List.pop_toArray, List.dropLast_cons_cons, List.dropLast_singleton]
  refine wpAnyH_take (i := 0) (v := ?_) rfl (by kernel_rfl) (by kernel_rfl) (by kernel_rfl) (fun _ _ _ h => h) (Or.inl ⟨by rfl, ?hy⟩) hHeld ?_
  case hy =>
    simp only [List.getElem_toArray, List.getElem_cons_zero]
    intro w' hSw
    (try dsimp only at hSw)
    go_simp
    with_reducible rfl
  simp only [List.getElem_toArray, List.getElem_cons_zero, Act.put, List.setIfInBounds_toArray, List.set_cons_zero, List.set_cons_succ]
  refine wpAnyH_take (i := 1) (v := ?_) rfl (by kernel_rfl) (by kernel_rfl) (by kernel_rfl) (fun _ _ _ h => h) (Or.inl ⟨by rfl, ?hy⟩) hHeld ?_
  case hy =>
    simp only [List.getElem_toArray, List.getElem_cons_succ, List.getElem_cons_zero]
    intro w' hSw
    (try dsimp only at hSw)
    go_simp
    with_reducible rfl
  simp only [List.getElem_toArray, List.getElem_cons_succ, List.getElem_cons_zero, Act.put, List.setIfInBounds_toArray, List.set_cons_zero, List.set_cons_succ]
  refine wpAnyH_take (i := 2) (v := ?_) rfl (by kernel_rfl) (by kernel_rfl) (by kernel_rfl) (fun _ _ _ h => h) (Or.inl ⟨by rfl, ?hy⟩) hHeld ?_
  case hy =>
    simp only [List.getElem_toArray, List.getElem_cons_succ, List.getElem_cons_zero]
    intro w' hSw
    (try dsimp only at hSw)
    go_simp
    with_reducible rfl
  simp only [List.getElem_toArray, List.getElem_cons_succ, List.getElem_cons_zero, Act.put, List.setIfInBounds_toArray, List.set_cons_zero, List.set_cons_succ]
  refine wpAnyH_take (i := 3) (v := ?_) rfl (by kernel_rfl) (by kernel_rfl) (by kernel_rfl) (fun _ _ _ h => h) (Or.inl ⟨by rfl, ?hy⟩) hHeld ?_
  case hy =>
    simp only [List.getElem_toArray, List.getElem_cons_succ, List.getElem_cons_zero]
    intro w' hSw
    (try dsimp only at hSw)
    go_simp
    with_reducible rfl
  simp only [List.getElem_toArray, List.getElem_cons_succ, List.getElem_cons_zero, Act.put, List.setIfInBounds_toArray, List.set_cons_zero, List.set_cons_succ]
  refine wpAnyH_take (i := 4) (v := ?_) rfl (by kernel_rfl) (by kernel_rfl) (by kernel_rfl) (fun _ _ _ h => h) (Or.inl ⟨by rfl, ?hy⟩) hHeld ?_
  case hy =>
    simp only [List.getElem_toArray, List.getElem_cons_succ, List.getElem_cons_zero]
    intro w' hSw
    (try dsimp only at hSw)
    go_simp
    with_reducible rfl
  simp only [List.getElem_toArray, List.getElem_cons_succ, List.getElem_cons_zero, Act.put, List.setIfInBounds_toArray, List.set_cons_zero, List.set_cons_succ]
  refine wpAnyH_ready (rs := [5]) (by kernel_rfl) (by simp) ?_
  refine AllReadyH.cons rfl (fun K hK => ?_) AllReadyH.nil
  simp only [List.getElem_toArray, List.getElem_cons_succ, List.getElem_cons_zero]
  rw [if_pos (by rfl)]
  go_wp2_with (go_at_call 85; refine (unhide HR _).mono ?_; rintro e w3 ⟨rfl, hb⟩; have L3 := hide (bel_undrew hb); clear hb; have Y3 := hide ((unhide Y0).next (unhide L3)); have c3 := ((unhide L3).cell (p := ⟨g, 2, none⟩) hgy).trans c2; obtain ⟨cy3, fy3, gy3⟩ := unhide Y3; clear gy3)
  refine hK.out _ _ (by first | go_keep | (go_simp; done)) (fun hH1 => ?_)
  clear hK K
  refine wpAnyH_take (i := 6) (v := ?_) rfl (by kernel_rfl) (by kernel_rfl) (by kernel_rfl) (fun _ _ _ h => h) (Or.inl ⟨by rfl, ?hy⟩) hH1 ?_
  case hy =>
    simp only [List.getElem_toArray, List.getElem_cons_succ, List.getElem_cons_zero]
    intro w' hSw
    (try dsimp only at hSw)
    go_simp
    with_reducible rfl
  simp only [List.getElem_toArray, List.getElem_cons_succ, List.getElem_cons_zero, Act.put, List.setIfInBounds_toArray, List.set_cons_zero, List.set_cons_succ]
  refine wpAnyH_take (i := 7) (v := ?_) rfl (by kernel_rfl) (by kernel_rfl) (by kernel_rfl) (fun _ _ _ h => h) (Or.inl ⟨by rfl, ?hy⟩) hH1 ?_
  case hy =>
    simp only [List.getElem_toArray, List.getElem_cons_succ, List.getElem_cons_zero]
    intro w' hSw
    (try dsimp only at hSw)
    go_simp
    with_reducible rfl
  simp only [List.getElem_toArray, List.getElem_cons_succ, List.getElem_cons_zero, Act.put, List.setIfInBounds_toArray, List.set_cons_zero, List.set_cons_succ]
  refine wpAnyH_done (by kernel_rfl) ?_ _
  refine last_step rfl (fun K hK => ?_)
  go_simp
  refine (unhide hK) _ _ ?_
  clear hK K
  go_wp2_with fail
  refine bodyPost_ret (v := .tuple #[.int .i64 fn, .int .i64 ato, .int .i64 0]) (by simp [results, Tryz.results58, go_sem]) rfl ⟨rfl, bel_then (unhide B0) (unhide L3)⟩

/-- What a run's span is, by the program. -/
theorem span_code {w wr : World} {l : List Hist.En} {v : Value} (hR : Hist.IsRun l) (hlen : l.length < 1000000000000) (h : FRow w wr v l) :
    Calls Tryz.prog 58 #[v] wr fun e w' => e = .returned (.tuple #[.int .i64 (Hist.firstN l), .int .i64 (Hist.lastTo l), .int .i64 (Hist.spanErr l)]) ∧ Below wr.heap.size wr w' := by
  obtain ⟨g, cap, rfl, ho, hb⟩ := h
  cases l with
  | nil => exact (span_none _ cap wr).mono (by rintro e w' ⟨rfl, rfl⟩; exact ⟨rfl, Below.refl _ _⟩)
  | cons f r =>
    obtain ⟨a, hla⟩ : ∃ a, (f :: r).getLast? = some a := ⟨_, List.getLast?_eq_some_getLast (by simp)⟩
    have hi : (f :: r)[r.length]? = some a := by
      have := hla
      rw [List.getLast?_eq_getElem?] at this
      simpa using this
    have e1 : Hist.firstN (f :: r) = f.n := rfl
    have e2 : Hist.lastTo (f :: r) = a.to := by unfold Hist.lastTo; rw [hla]
    have e3 : Hist.spanErr (f :: r) = 0 := by unfold Hist.spanErr; simp
    have hl : (f :: r).length = r.length + 1 := by simp
    have r0 := row_range fcells_length ho (i := 0) (e := f) rfl
    have c2 := r0 2 (.int .i64 f.n) rfl
    rw [Nat.zero_mul, Nat.zero_add] at c2
    have rl := row_range fcells_length ho hi
    have hg := (ho.lt g rfl).2
    rw [e1, e2, e3, hl]
    rw [hl] at hlen
    exact span_some r.length hlen a (hR.ok a (List.mem_of_getElem? hi)) f.n g cap wr rl c2 hg

set_option maxHeartbeats 1000000 in
theorem span_api (t : ByteArray) (ht : t.size ≤ 1048576) (w : World) :
    Calls Tryz.prog 33 #[.string t] w fun e w' => e = .returned (.tuple #[.int .i64 (Hist.firstN (Hist.run t)), .int .i64 (Hist.lastTo (Hist.run t)), .int .i64 (Hist.spanErr (Hist.run t))]) ∧ Below w.heap.size w w' := by
  have H1 := hide (run_code t ht)
  have hn := Hist.run_length t
  have HS := hide (fun wr v (h : FRow w wr v (Hist.run t)) => span_code (Hist.run_isRun t) (by omega) h)
  generalize Hist.firstN (Hist.run t) = r1 at *
  generalize Hist.lastTo (Hist.run t) = r2 at *
  generalize Hist.spanErr (Hist.run t) = r3 at *
  go_enter Tryz.func33, Tryz.ntmps33
  go_wp2_with fail
  refine (unhide H1 _).mono ?_
  rintro e w1 ⟨v, rfl, hf⟩
  have HF := hide hf
  have HB : Hid (Below w.heap.size w w1) := hide hf.choose_spec.choose_spec.2.2
  clear hf
  go_wp2_with fail
  refine (unhide HS _ _ (unhide HF)).mono ?_
  rintro e w2 ⟨rfl, hb⟩
  have HB2 := hide hb
  clear hb
  go_wp2_with fail
  refine bodyPost_ret (v := .tuple #[.int .i64 r1, .int .i64 r2, .int .i64 r3]) (by simp [results, Tryz.results33, go_sem]) rfl ⟨rfl, (unhide HB).trans ((unhide HB2).mono (unhide HB).size)⟩
end Go.Proofs.YtcmoffiigpchiaaGreat
