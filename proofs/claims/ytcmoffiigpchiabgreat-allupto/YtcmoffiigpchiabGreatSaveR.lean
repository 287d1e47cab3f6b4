import Derived.Test.YtcmoffiigpchiabGreatRecW
import Derived.Test.YtcmoffiigpchiabGreatOfW
import Derived.Deep.RegionLaw
import Derived.Deep.AppendLies
import Derived.Deep.RegionHeld3
import Derived.Test.YtcmoffiigpchiabGreatRegL
namespace Go.Proofs.YtcmoffiigpchiabGreat
open Go.RowKit

theorem infoStr : (Tryz.prog.info? 9).map (fun i => (i.zero, i.size, i.bytes)) = some (some (.string ⟨#[]⟩), 1, 16) := by kernel_rfl

theorem own_lt {w : World} {e : TypeId} {g cap n : Nat} {xs : List Value} (h : w.ownsRow 0 e 1 (.slice (some ⟨g, 0, none⟩) n cap) n xs) : g < w.heap.size := by
  rcases h.2 with ⟨hv, _⟩ | ⟨g', cap', cur, hv, _, hg, _⟩
  · simp at hv
  · simp at hv
    obtain ⟨rfl, rfl⟩ := hv
    rcases Nat.lt_or_ge g w.heap.size with h | h
    · exact h
    · rw [Array.getElem?_eq_none h] at hg; cases hg

theorem later_block {w1 w2 : World} {g : Nat} (h : Below w1.heap.size w1 w2) (hg : g < w1.heap.size) (o : Obj) : (w2.alloc o).heap[g]? = w1.heap[g]? := by
  have e : (w2.alloc o).heap[g]? = w2.heap[g]? := Below.heap_alloc w2 o g (Nat.lt_of_lt_of_le hg h.size)
  rw [e]
  exact h.block g hg
theorem news_one (w : World) (v : Value) (t : TypeId) : ∀ j u, [v][j]? = some u → (w.alloc (.cells #[v] t)).cell? ((⟨w.heap.size, 0, none⟩ : Addr).add j) = some u := by
  intro j u hu
  match j, hu with
  | 0, hu =>
    simp at hu
    subst hu
    rw [Addr.add_mid, Nat.zero_add, World.cell?_alloc_mark]
    rfl
theorem one_str (s : ByteArray) : ∀ u ∈ [Value.string s], u.oneCell' = true := by
  intro u hu
  simp at hu
  subst hu
  rfl

theorem RefAt.setLast {w : World} {b g cap : Nat} {m : RM} (h : RefAt w b g cap m) (x : Int) : RefAt (w.setCell ⟨b, 14, none⟩ (.int .i64 x)) b g cap { m with last := x } := by
  refine ⟨?_, own_block h.own (Below.heap_setCell w ⟨b, 14, none⟩ _ g (fun e => h.ne e.symm)), h.ne⟩
  have := h.box.set 14 (.int .i64 x) (by simp)
  simpa using this

/-- A frame more. -/
theorem appended {w1 w2 w3 : World} {b g cap g' cap' : Nat} {q : RM} {fr : ByteArray} (R1 : RefAt w1 b g cap q) (L2 : Below w1.heap.size w1 w2)
    (O3 : w3.ownsRow 0 9 1 (.slice (some ⟨g', 0, none⟩) (q.all.length + 1) cap') (q.all.length + 1) (q.all.map Value.string ++ [.string fr]))
    (G3 : (w2.alloc (.cells #[.string fr] 9)).grownBy w3 (some g)) (A3 : some g = some g' ∨ g' = (w2.alloc (.cells #[.string fr] 9)).heap.size) :
    RefAt (w3.setCell ⟨b, 12, none⟩ (.slice (some ⟨g', 0, none⟩) (q.all.length + 1) cap')) b g' cap' { q with all := q.all ++ [fr] } ∧ (g' = g ∨ w1.heap.size ≤ g') ∧ Keeps w1 (w3.setCell ⟨b, 12, none⟩ (.slice (some ⟨g', 0, none⟩) (q.all.length + 1) cap')) [b, g] := by
  have hsz := L2.size
  have hX : (w2.alloc (.cells #[.string fr] 9)).heap.size = w2.heap.size + 1 := by simp
  have hlt := R1.box.lt
  have hne' : b ≠ g' := by
    rcases A3 with h | h
    · cases h; exact R1.ne
    · rw [hX] at h; omega
  have K0 : Keeps w1 w3 [b, g] := (keeps_of (bel_then L2 ((Below.refl _ _).alloc (Nat.le_refl _) _)) _).trans (grown_keeps G3 (by simp))
  have B3 : Box w3 b (q.cells (.slice (some ⟨g, 0, none⟩) q.all.length cap)) :=
    (R1.box.next (bel_then L2 ((Below.refl _ _).alloc (Nat.le_refl _) _))).keeps (grown_keeps G3 (List.mem_singleton.2 rfl)) (by simpa using R1.ne)
  refine ⟨⟨?_, ?_, hne'⟩, ?_, K0.setCell (by simp) _⟩
  · have h := B3.set 12 (.slice (some ⟨g', 0, none⟩) (q.all.length + 1) cap') (by simp)
    have e : (q.all ++ [fr]).length = q.all.length + 1 := by simp
    simp only [e]
    simpa using h
  · have e : (q.all ++ [fr]).length = q.all.length + 1 := by simp
    have e2 : (q.all ++ [fr]).map Value.string = q.all.map Value.string ++ [.string fr] := by simp
    simp only [e, e2]
    exact own_block O3 (Below.heap_setCell w3 ⟨b, 12, none⟩ _ g' (fun h => hne' h.symm))
  · rcases A3 with h | h
    · cases h; exact .inl rfl
    · right; rw [h, hX]; omega

set_option maxRecDepth 100000 in
set_option maxHeartbeats 4000000 in
theorem save_walk (b g cap : Nat) (q : RM) (pn : Bool) (hq : q.Ok) (hsz : q.all.length < 8796093022207) (w : World)
    (hp : Calls Tryz.prog 61 #[.pointer (some ⟨b, 0, none⟩)] w fun e w' => e = .returned (.bool pn) ∧ RefAt w' b g cap q ∧ Keeps w w' [b]) :
    Calls Tryz.prog 36 #[.pointer (some ⟨b, 0, none⟩)] w fun e w' => e = .returned (.tuple #[]) ∧ ∃ g' cap', RefAt w' b g' cap' { q with all := q.all ++ [Frame.ofState q.all.length q.s], last := q.s.n } ∧ (g' = g ∨ w.heap.size ≤ g') ∧ Keeps w w' [b, g] := by
  obtain ⟨i0, hi, hz0, hz1, hz2⟩ := info_parts infoStr
  have HP := hide hp
  have HOF := hide (ofState_ref q.all.length (by omega) q.s hq.legal)
  have HQ := hide hq
  clear hp hq
  obtain ⟨p, room, period, ⟨n, pc, regs, cells, clock, handler, back, pending, halted⟩, all, from_, last⟩ := q
  simp only at hsz HOF ⊢
  generalize Frame.ofState all.length ⟨n, pc, regs, cells, clock, handler, back, pending, halted⟩ = fr at *
  go_enter Tryz.func36, Tryz.ntmps36
  go_wp2_with (go_at_call 61; refine (unhide HP).mono ?_; rintro e w1 ⟨rfl, hR, hK⟩; have R1 := hide hR; have K1 := hide hK; clear hR hK; obtain ⟨c1, f1, lt1⟩ := (unhide R1).box; have ne1 := (unhide R1).ne)
  refine region_last2 19 (S := (fun w' => w'.cell? ⟨b, 12, none⟩ = some (.slice (some ⟨g, 0, none⟩) all.length cap) ∧ w'.cell? ⟨b, 3, none⟩ = some (.int .i64 n) ∧ w'.cell? ⟨b, 4, none⟩ = some (.int .i64 pc) ∧ w'.cell? ⟨b, 5, none⟩ = some (.string regs) ∧ w'.cell? ⟨b, 6, none⟩ = some (.string cells) ∧ w'.cell? ⟨b, 7, none⟩ = some (.int .i64 clock) ∧ w'.cell? ⟨b, 8, none⟩ = some (.int .i64 handler) ∧ w'.cell? ⟨b, 9, none⟩ = some (.int .i64 back) ∧ w'.cell? ⟨b, 10, none⟩ = some (.bool pending) ∧ w'.cell? ⟨b, 11, none⟩ = some (.bool halted))) _ rfl rfl (by kernel_rfl) (by kernel_rfl) (by first | go_keep | (go_simp; done)) (fun hHeld => ?_)
  simp only [List.pop_toArray, List.dropLast_cons_cons, List.dropLast_singleton]
  refine wpAnyH_take (i := 0) (v := ?_) rfl (by kernel_rfl) (by kernel_rfl) (by kernel_rfl) (fun _ _ _ h => h) (Or.inl ⟨by rfl, ?hy⟩) hHeld ?_
  case hy =>
    simp only [List.getElem_toArray, List.getElem_cons_zero]
    intro w' hSw
    (try dsimp only at hSw)
    go_simp
    with_reducible rfl
  simp only [List.getElem_toArray, List.getElem_cons_zero, Act.put, List.setIfInBounds_toArray, List.set_cons_zero, List.set_cons_succ]
  refine wpAnyH_take (i := 1) (v := ?_) rfl (by kernel_rfl) (by kernel_rfl) (by kernel_rfl) (fun _ _ _ h => h) (Or.inl ⟨by rfl, ?hy⟩) hHeld ?_
  case hy =>
    simp only [List.getElem_toArray, List.getElem_cons_succ, List.getElem_cons_zero]
    intro w' hSw
    (try dsimp only at hSw)
    go_simp
    with_reducible rfl
  simp only [List.getElem_toArray, List.getElem_cons_succ, List.getElem_cons_zero, Act.put, List.setIfInBounds_toArray, List.set_cons_zero, List.set_cons_succ]
  refine wpAnyH_take (i := 2) (v := ?_) rfl (by kernel_rfl) (by kernel_rfl) (by kernel_rfl) (fun _ _ _ h => h) (Or.inl ⟨by rfl, ?hy⟩) hHeld ?_
  case hy =>
    simp only [List.getElem_toArray, List.getElem_cons_succ, List.getElem_cons_zero]
    intro w' hSw
    (try dsimp only at hSw)
    go_simp
    with_reducible rfl
  simp only [List.getElem_toArray, List.getElem_cons_succ, List.getElem_cons_zero, Act.put, List.setIfInBounds_toArray, List.set_cons_zero, List.set_cons_succ]
  refine wpAnyH_take (i := 3) (v := ?_) rfl (by kernel_rfl) (by kernel_rfl) (by kernel_rfl) (fun _ _ _ h => h) (Or.inl ⟨by rfl, ?hy⟩) hHeld ?_
  case hy =>
    simp only [List.getElem_toArray, List.getElem_cons_succ, List.getElem_cons_zero]
    intro w' hSw
    (try dsimp only at hSw)
    go_simp
    with_reducible rfl
  simp only [List.getElem_toArray, List.getElem_cons_succ, List.getElem_cons_zero, Act.put, List.setIfInBounds_toArray, List.set_cons_zero, List.set_cons_succ]
  refine wpAnyH_take (i := 4) (v := ?_) rfl (by kernel_rfl) (by kernel_rfl) (by kernel_rfl) (fun _ _ _ h => h) (Or.inl ⟨by rfl, ?hy⟩) hHeld ?_
  case hy =>
    simp only [List.getElem_toArray, List.getElem_cons_succ, List.getElem_cons_zero]
    intro w' hSw
    (try dsimp only at hSw)
    go_simp
    with_reducible rfl
  simp only [List.getElem_toArray, List.getElem_cons_succ, List.getElem_cons_zero, Act.put, List.setIfInBounds_toArray, List.set_cons_zero, List.set_cons_succ]
  refine wpAnyH_take (i := 5) (v := ?_) rfl (by kernel_rfl) (by kernel_rfl) (by kernel_rfl) (fun _ _ _ h => h) (Or.inl ⟨by rfl, ?hy⟩) hHeld ?_
  case hy =>
    simp only [List.getElem_toArray, List.getElem_cons_succ, List.getElem_cons_zero]
    intro w' hSw
    (try dsimp only at hSw)
    go_simp
    with_reducible rfl
  simp only [List.getElem_toArray, List.getElem_cons_succ, List.getElem_cons_zero, Act.put, List.setIfInBounds_toArray, List.set_cons_zero, List.set_cons_succ]
  refine wpAnyH_take (i := 6) (v := ?_) rfl (by kernel_rfl) (by kernel_rfl) (by kernel_rfl) (fun _ _ _ h => h) (Or.inl ⟨by rfl, ?hy⟩) hHeld ?_
  case hy =>
    simp only [List.getElem_toArray, List.getElem_cons_succ, List.getElem_cons_zero]
    intro w' hSw
    (try dsimp only at hSw)
    go_simp
    with_reducible rfl
  simp only [List.getElem_toArray, List.getElem_cons_succ, List.getElem_cons_zero, Act.put, List.setIfInBounds_toArray, List.set_cons_zero, List.set_cons_succ]
  refine wpAnyH_take (i := 7) (v := ?_) rfl (by kernel_rfl) (by kernel_rfl) (by kernel_rfl) (fun _ _ _ h => h) (Or.inl ⟨by rfl, ?hy⟩) hHeld ?_
  case hy =>
    simp only [List.getElem_toArray, List.getElem_cons_succ, List.getElem_cons_zero]
    intro w' hSw
    (try dsimp only at hSw)
    go_simp
    with_reducible rfl
  simp only [List.getElem_toArray, List.getElem_cons_succ, List.getElem_cons_zero, Act.put, List.setIfInBounds_toArray, List.set_cons_zero, List.set_cons_succ]
  refine wpAnyH_take (i := 8) (v := ?_) rfl (by kernel_rfl) (by kernel_rfl) (by kernel_rfl) (fun _ _ _ h => h) (Or.inl ⟨by rfl, ?hy⟩) hHeld ?_
  case hy =>
    simp only [List.getElem_toArray, List.getElem_cons_succ, List.getElem_cons_zero]
    intro w' hSw
    (try dsimp only at hSw)
    go_simp
    with_reducible rfl
  simp only [List.getElem_toArray, List.getElem_cons_succ, List.getElem_cons_zero, Act.put, List.setIfInBounds_toArray, List.set_cons_zero, List.set_cons_succ]
  refine wpAnyH_take (i := 9) (v := ?_) rfl (by kernel_rfl) (by kernel_rfl) (by kernel_rfl) (fun _ _ _ h => h) (Or.inl ⟨by rfl, ?hy⟩) hHeld ?_
  case hy =>
    simp only [List.getElem_toArray, List.getElem_cons_succ, List.getElem_cons_zero]
    intro w' hSw
    (try dsimp only at hSw)
    go_simp
    with_reducible rfl
  simp only [List.getElem_toArray, List.getElem_cons_succ, List.getElem_cons_zero, Act.put, List.setIfInBounds_toArray, List.set_cons_zero, List.set_cons_succ]
  refine wpAnyH_take (i := 10) (v := ?_) rfl (by kernel_rfl) (by kernel_rfl) (by kernel_rfl) (fun _ _ _ h => h) (Or.inl ⟨by rfl, ?hy⟩) hHeld ?_
  case hy =>
    simp only [List.getElem_toArray, List.getElem_cons_succ, List.getElem_cons_zero]
    intro w' hSw
    (try dsimp only at hSw)
    go_simp
    with_reducible rfl
  simp only [List.getElem_toArray, List.getElem_cons_succ, List.getElem_cons_zero, Act.put, List.setIfInBounds_toArray, List.set_cons_zero, List.set_cons_succ]
  refine wpAnyH_take (i := 11) (v := ?_) rfl (by kernel_rfl) (by kernel_rfl) (by kernel_rfl) (fun _ _ _ h => h) (Or.inl ⟨by rfl, ?hy⟩) hHeld ?_
  case hy =>
    simp only [List.getElem_toArray, List.getElem_cons_succ, List.getElem_cons_zero]
    intro w' hSw
    (try dsimp only at hSw)
    go_simp
    with_reducible rfl
  simp only [List.getElem_toArray, List.getElem_cons_succ, List.getElem_cons_zero, Act.put, List.setIfInBounds_toArray, List.set_cons_zero, List.set_cons_succ]
  refine wpAnyH_take (i := 12) (v := ?_) rfl (by kernel_rfl) (by kernel_rfl) (by kernel_rfl) (fun _ _ _ h => h) (Or.inl ⟨by rfl, ?hy⟩) hHeld ?_
  case hy =>
    simp only [List.getElem_toArray, List.getElem_cons_succ, List.getElem_cons_zero]
    intro w' hSw
    (try dsimp only at hSw)
    go_simp
    with_reducible rfl
  simp only [List.getElem_toArray, List.getElem_cons_succ, List.getElem_cons_zero, Act.put, List.setIfInBounds_toArray, List.set_cons_zero, List.set_cons_succ]
  refine wpAnyH_take (i := 13) (v := ?_) rfl (by kernel_rfl) (by kernel_rfl) (by kernel_rfl) (fun _ _ _ h => h) (Or.inl ⟨by rfl, ?hy⟩) hHeld ?_
  case hy =>
    simp only [List.getElem_toArray, List.getElem_cons_succ, List.getElem_cons_zero]
    intro w' hSw
    (try dsimp only at hSw)
    go_simp
    with_reducible rfl
  simp only [List.getElem_toArray, List.getElem_cons_succ, List.getElem_cons_zero, Act.put, List.setIfInBounds_toArray, List.set_cons_zero, List.set_cons_succ]
  refine wpAnyH_ready (rs := [14]) (by kernel_rfl) (by simp) ?_
  refine AllReadyH.cons rfl (fun K hK => ?_) AllReadyH.nil
  simp only [List.getElem_toArray, List.getElem_cons_succ, List.getElem_cons_zero]
  rw [if_pos (by simp [Region.wanted])]
  go_wp2_with (go_at_call 50; refine (unhide HOF _).mono ?_; rintro e w2 ⟨rfl, hb⟩; have L2 := hide (bel_undrew hb); clear hb; have B2 := hide ((unhide R1).box.next (unhide L2)); obtain ⟨c2, f2, lt2⟩ := unhide B2)
  refine hK.out _ _ (by first | go_keep | (go_simp; done)) (fun hHeld2 => ?_)
  clear hK K
  refine wpAnyH_ready (rs := [15]) (by kernel_rfl) (by simp) ?_
  refine AllReadyH.cons rfl (fun K hK => ?_) AllReadyH.nil
  simp only [List.getElem_toArray, List.getElem_cons_succ, List.getElem_cons_zero]
  go_simp
  refine hK.out _ _ (by first | go_keep | (go_simp; done)) (fun hHeld3 => ?_)
  clear hK K
  refine wpAnyH_ready (rs := [16]) (by kernel_rfl) (by simp) ?_
  refine AllReadyH.cons rfl (fun K hK => ?_) AllReadyH.nil
  simp only [List.getElem_toArray, List.getElem_cons_succ, List.getElem_cons_zero]
  rw [if_pos (by simp [Region.wanted])]
  refine wp_append_lies _ _ _ _ (by rfl) 0 9 i0 _ 1 16 Tryz.underlying66 hi hz0 hz1 hz2 rfl (by decide) (.slice (some ⟨g, 0, none⟩) all.length cap) all.length (all.map Value.string) (by rfl) (own_block (unhide R1).own (later_block (unhide L2) (own_lt (unhide R1).own) _)) ⟨w2.heap.size, 0, none⟩ 1 1 [.string fr] (by rfl) rfl (news_one w2 (.string fr) 9) (one_str fr) (by omega) (by unfold maxLen; omega) (by omega) (Nat.zero_le _) _ rfl ?_
  intro g' cap' w3 hown hgrow hat hlt
  have O3 := hide hown
  have G3 := hide hgrow
  have A3 := hide hat
  clear hown hgrow hat
  have B3 := hide (((unhide B2).alloc _).keeps (grown_keeps (unhide G3) (List.mem_singleton.2 rfl)) (by simpa using ne1))
  obtain ⟨c3, f3, lt3⟩ := unhide B3
  refine hK.out _ _ (by first | go_keep | (go_simp; done)) (fun hHeld4 => ?_)
  clear hK K
  simp only [Act.put, List.setIfInBounds_toArray, List.set_cons_zero, List.set_cons_succ]
  refine wpAnyH_take (i := 17) (v := ?_) rfl (by kernel_rfl) (by kernel_rfl) (by kernel_rfl) (fun _ _ _ h => h) (Or.inl ⟨by rfl, ?hy⟩) hHeld4 ?_
  case hy =>
    simp only [List.getElem_toArray, List.getElem_cons_succ, List.getElem_cons_zero]
    intro w' hSw
    (try dsimp only at hSw)
    go_simp
    with_reducible rfl
  simp only [List.getElem_toArray, List.getElem_cons_succ, List.getElem_cons_zero, Act.put, List.setIfInBounds_toArray, List.set_cons_zero, List.set_cons_succ]
  refine wpAnyH_take (i := 18) (v := ?_) rfl (by kernel_rfl) (by kernel_rfl) (by kernel_rfl) (fun _ _ _ h => h) (Or.inl ⟨by rfl, ?hy⟩) hHeld4 ?_
  case hy =>
    simp only [List.getElem_toArray, List.getElem_cons_succ, List.getElem_cons_zero]
    intro w' hSw
    (try dsimp only at hSw)
    go_simp
    with_reducible rfl
  simp only [List.getElem_toArray, List.getElem_cons_succ, List.getElem_cons_zero, Act.put, List.setIfInBounds_toArray, List.set_cons_zero, List.set_cons_succ]
  refine wpAnyH_done (by kernel_rfl) ?_ _
  refine last_step rfl (fun K hK => ?_)
  go_simp
  refine (unhide hK) _ _ ?_
  clear hK K
  go_wp2
  go_end0
  obtain ⟨a1, a2, a3⟩ := appended (unhide R1) (unhide L2) (unhide O3) (unhide G3) (unhide A3)
  have hs1 := (unhide K1).size
  exact ⟨rfl, _, _, a1.setLast n, a2.imp id (fun h => by omega), ((unhide K1).mono (by simp)).trans (a3.setCell (by simp) _)⟩

theorem save_ref (b g cap : Nat) (m : RM) (hm : m.Ok) (hsz : m.all.length < 8796093022207) (w : World) (h : RefAt w b g cap m) :
    Calls Tryz.prog 36 #[.pointer (some ⟨b, 0, none⟩)] w fun e w' => e = .returned (.tuple #[]) ∧ ∃ g' cap', RefAt w' b g' cap' (RM.save m) ∧ (g' = g ∨ w.heap.size ≤ g') ∧ Keeps w w' [b, g] := by
  have hs : (RM.place m).1.s = m.s := RM.place_s m
  have ha : (RM.place m).1.all = m.all := RM.place_all m
  have := save_walk b g cap (RM.place m).1 _ (RM.place_ok hm) (by rw [ha]; exact hsz) w (place_ref b g cap m hm w h)
  have e : RM.save m = { (RM.place m).1 with all := (RM.place m).1.all ++ [Frame.ofState (RM.place m).1.all.length (RM.place m).1.s], last := (RM.place m).1.s.n } := by
    unfold RM.save
    rw [hs]
  rw [e]
  exact this
end Go.Proofs.YtcmoffiigpchiabGreat
