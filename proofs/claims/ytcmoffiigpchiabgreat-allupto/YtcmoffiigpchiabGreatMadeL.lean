import Derived.Test.YtcmoffiigpchiabGreatPaL
namespace Go.Proofs.YtcmoffiigpchiabGreat
open Go.RowKit

theorem infoPair : (Tryz.prog.info? 40).map (fun i => (i.zero, i.size, i.bytes)) = some (some (.pointer none), 1, 8) := by kernel_rfl
theorem newErr_bound (p : ByteArray) (x y : Int) : 0 ≤ newErr p x y ∧ newErr p x y ≤ 3 := by
  have := chk_bound p
  unfold newErr
  repeat' split
  all_goals omega
theorem one_ptr (a : Option Addr) : ∀ u ∈ [Value.pointer a], u.oneCell' = true := by
  intro u hu
  simp at hu
  subst hu
  rfl
theorem news_two (w : World) (X : Obj) (v : Value) (t : TypeId) : ∀ j u, [v][j]? = some u → ((w.alloc X).alloc (.cells #[v] t)).cell? ((⟨w.heap.size + 1, 0, none⟩ : Addr).add j) = some u := by
  have e : (w.alloc X).heap.size = w.heap.size + 1 := by simp
  rw [← e]
  exact news_one (w.alloc X) v t
theorem newErr_zero {p : ByteArray} {x y : Int} (h : newErr p x y = 0) : (Code.chk p).1 = 0 ∧ 2 ≤ x ∧ x ≤ 64 ∧ 1 ≤ y ∧ y ≤ 50 := by
  unfold newErr at h
  split at h
  · rename_i h1; exact absurd h h1
  · rename_i h1
    split at h
    · simp at h
    · rename_i h2
      refine ⟨?_, ?_, ?_, ?_, ?_⟩
      · rcases Classical.em ((Code.chk p).1 = 0) with e | e
        · exact e
        · exact absurd e h1
      all_goals omega

set_option maxRecDepth 100000 in
set_option maxHeartbeats 1000000 in
theorem made_err (B k : Nat) (o : OpV) (ho : o.Ok) (he : newErr o.p o.x o.y ≠ 0) (wr : World) (h : WInv B k wr) :
    Calls Tryz.prog 10 #[.pointer (some ⟨B, 0, none⟩), o.val] wr fun e w' => e = .returned (.bool true) ∧ WInv B (k + 1) w' ∧ Below B wr w' := by
  obtain ⟨v, n, P, hW⟩ := h
  have hB := hW.box.lt
  have FIN := hide (fun (w' : World) (hb : Below wr.heap.size wr w') => show WInv B (k + 1) w' ∧ Below B wr w' from ⟨⟨v, n, P, (hW.next hb).more⟩, hb.mono (by omega)⟩)
  have HC := hide (newC_err o.p o.x o.y ho.p he)
  have HY := hide (new_err o.p o.x o.y ho.p he)
  have hbd := newErr_bound o.p o.x o.y
  clear hW he
  unfold OpV.val OpV.cells
  generalize newErr o.p o.x o.y = er at *
  go_enter Tryz.func10, Tryz.ntmps10
  go_wp2_with fail
  refine (unhide HC _).mono ?_
  rintro e w1 ⟨rfl, rfl⟩
  go_wp2_with fail
  refine (unhide HY _).mono ?_
  rintro e w2 ⟨rfl, hb⟩
  have L2 := hide (bel_alloc hb)
  clear hb
  go_wp2_with (go_at_call 19; refine (num_law _ (by omega) _).mono ?_; rintro e w' ⟨rfl, rfl⟩)
  go_ret
  exact ⟨rfl, unhide FIN _ (unhide L2)⟩

set_option maxRecDepth 100000 in
set_option maxHeartbeats 1000000 in
theorem made_ok (B k : Nat) (o : OpV) (ho : o.Ok) (he : newErr o.p o.x o.y = 0) (hbig : k < 2932031007300) (wr : World) (h : WInv B k wr) :
    Calls Tryz.prog 10 #[.pointer (some ⟨B, 0, none⟩), o.val] wr fun e w' => e = .returned (.bool true) ∧ WInv B (k + 1) w' ∧ Below B wr w' := by
  obtain ⟨i0, hi, hz0, hz1, hz2⟩ := info_parts infoPair
  obtain ⟨v, n, P, hW⟩ := h
  have hB := hW.box.lt
  have hcnt := hW.count
  obtain ⟨e1, e2, e3, e4, e5⟩ := newErr_zero he
  have HC := hide (newC_ok o.p o.x o.y ho.p e1 e2 e3 e4 e5)
  have HY := hide (new_ok o.p o.x o.y ho.p e1 e2 e3 e4 e5)
  have HI := hide (RM.new_inv (Mach.good_of e1) e2 e3 e4 e5)
  have HL : Hid ((RM.new o.p o.x o.y).all.length ≤ 1) := hide (by simp [RM.new])
  have HV0 := hide hW.box
  have HW := hide hW
  clear hW he
  unfold OpV.val OpV.cells
  generalize RM.new o.p o.x o.y = mn at *
  go_enter Tryz.func10, Tryz.ntmps10
  go_wp2_with fail
  refine (unhide HC _).mono ?_
  rintro e w1 ⟨b1, rfl, hx, hb1, hbl⟩
  have O1 := hide ((Box.new wr _ _).next hbl)
  have V1 := hide (((unhide HV0).alloc _).next hbl)
  have X1 := hide hx
  have L1 := hide (bel_alloc hbl)
  have hb1' : wr.heap.size + 1 ≤ b1 := by simpa using hb1
  have hs1 := hx.lt
  clear hx hb1 hbl
  obtain ⟨co, fo, go⟩ := unhide O1
  go_wp2_with fail
  refine (unhide HY _).mono ?_
  rintro e w2 ⟨b2, g2, rfl, hr, hb2, hg2, hbl⟩
  have V2 := hide ((unhide V1).next hbl)
  have X2 := hide ((unhide X1).next hbl)
  have R2 := hide hr
  have hne := hr.ne
  have hl2 := hr.box.lt
  have hl3 := own_lt hr.own
  have hl4 := hbl.size
  have L2 := hide (bel_then (unhide L1) hbl)
  clear hr hbl co fo go
  obtain ⟨cv, fv, gv⟩ := unhide V2
  have nB1 : ¬ B = w2.heap.size := by omega
  have nB2 : ¬ w2.heap.size = B := by omega
  have nB3 : ¬ B = w2.heap.size + 1 := by omega
  have nB4 : ¬ w2.heap.size + 1 = B := by omega
  have PN := hide (fun (X : Obj) => show Lies ((w2.alloc (.cells #[.pointer (some ⟨b1, 0, none⟩), .pointer (some ⟨b2, 0, none⟩)] 58)).alloc X) B ⟨w2.heap.size, b1, b2, g2, 1, mn⟩ from
    ⟨(Box.new w2 _ _).alloc _, ((unhide X2).alloc _).alloc _, ((unhide R2).alloc _).alloc _, unhide HI, by show B < w2.heap.size; omega, by show B < b1; omega, by show B < b2; omega, by show B < g2; omega, by show w2.heap.size ≠ b1; omega, by show w2.heap.size ≠ b2; omega, by show w2.heap.size ≠ g2; omega, by show b1 ≠ b2; omega, by show b1 ≠ g2; omega⟩)
  have HBS := hide (fun (X Y : Obj) => show B + 1 ≤ ((w2.alloc X).alloc Y).heap.size from by simp; omega)
  have ROW := hide (fun (X Y : Obj) => row_keeps ((unhide HW).next (unhide L2)).row ((keeps_all w2 X).trans (keeps_all _ Y)) (by simp))
  go_wp2_with (first | (go_at_call 19; refine (num_law _ (by omega) _).mono ?_; rintro e w' ⟨rfl, hw⟩; obtain rfl := hw.symm) | (at_builtin; refine wpList_append_lies _ rfl _ _ 26 rfl (B + 1) 40 i0 (.pointer none) 1 8 Tryz.underlying26 hi hz0 hz1 hz2 rfl (by decide) v n (rowP P n) rfl (unhide ROW _ _) ⟨w2.heap.size + 1, 0, none⟩ 1 1 [.pointer (some ⟨w2.heap.size, 0, none⟩)] rfl rfl (news_two w2 _ _ _) (one_ptr _) (by decide) (by unfold maxLen; omega) (by omega) (unhide HBS _ _) _ rfl ?_; intro g' cap' w3 hown hgrow hat hlt; have O3 := hide hown; have G3 := hide hgrow; have A3 := hide hat; clear hown hgrow hat; clear hlt; have C3 := hide ((((unhide V2).alloc _).alloc _).keeps (⟨(unhide G3).os, (unhide G3).tape, (unhide G3).output, (unhide G3).size, fun i hi hn => (unhide G3).block i hi (fun e => hn (by rw [← e]; simp))⟩ : Keeps _ w3 v.ownBlock.toList) (fun hm => by have := ((unhide HW).row.lt B (by simpa using hm)).1; omega)); obtain ⟨c3, f3, g3⟩ := unhide C3))
  go_ret
  refine ⟨rfl, ?_⟩
  have s2 := (unhide L2).size
  refine (unhide HW).made (pn := ⟨w2.heap.size, b1, b2, g2, 1, mn⟩) (((unhide L2).alloc (unhide L2).size _).alloc (by simp; omega) _) (unhide G3) (unhide O3) ?_ (unhide PN _) ?_ (unhide HL)
  · intro r hr
    simp [Value.ownBlock] at hr
    subst hr
    rcases unhide A3 with h | h
    · exact .inl h
    · exact .inr (Nat.le_of_eq h.symm)
  · intro a ha
    simp [PV.blocks] at ha
    omega

set_option maxRecDepth 100000 in
set_option maxHeartbeats 1000000 in
theorem step_made (B k : Nat) (o : OpV) (ho : o.Ok) (hk : o.kind = 4) (hbig : k < 2932031007300) (wr : World) (h : WInv B k wr) :
    Calls Tryz.prog 5 #[.pointer (some ⟨B, 0, none⟩), o.val] wr fun e w' => e = .returned (.bool true) ∧ WInv B (k + 1) w' ∧ Below B wr w' := by
  have hB : B < wr.heap.size := by
    obtain ⟨v, n, P, hW⟩ := h
    exact hW.box.lt
  have HM : Hid (∀ W, WInv B k W → Calls Tryz.prog 10 #[.pointer (some ⟨B, 0, none⟩), o.val] W fun e w' => e = .returned (.bool true) ∧ WInv B (k + 1) w' ∧ Below B W w') := hide (fun W hW => by
    by_cases he : newErr o.p o.x o.y = 0
    · exact made_ok B k o ho he hbig W hW
    · exact made_err B k o ho he W hW)
  have HI := hide (fun (X : Obj) => show WInv B k (wr.alloc X) from by
    obtain ⟨v, n, P, hW⟩ := h
    exact ⟨v, n, P, hW.keeps0 (keeps_all wr X)⟩)
  clear h ho
  unfold OpV.val OpV.cells at *
  rw [hk] at HM ⊢
  go_enter Tryz.func5, Tryz.ntmps5
  go_wp2_with fail
  refine (unhide HM _ (unhide HI _)).mono ?_
  rintro e w1 ⟨rfl, hi, hb⟩
  have I1 := hide hi
  have L1 := hide ((below_of0 (keeps_all wr _) (Nat.le_of_lt hB)).trans hb)
  clear hi hb
  go_wp2_with fail
  go_ret
  exact ⟨rfl, unhide I1, unhide L1⟩
end Go.Proofs.YtcmoffiigpchiabGreat
