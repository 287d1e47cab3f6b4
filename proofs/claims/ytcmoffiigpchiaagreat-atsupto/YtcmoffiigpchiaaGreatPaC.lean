import Derived.Test.YtcmoffiigpchiaaGreatPaB
namespace Go.Proofs.YtcmoffiigpchiaaGreat
open Go.RowKit

set_option maxRecDepth 100000 in
set_option maxHeartbeats 4000000 in
theorem begin_code (l : List Hist.En) (g cap j : Nat) (e : Hist.En) (he : l[j]? = some e) (hc : l.length ≤ cap) (hl : l.length < 1000000) (w : World) (hL : LiesF w g l) :
    Calls Tryz.prog 89 #[slF g cap l.length j (j * 15)] w fun r w' => ∃ v, r = .returned v ∧ Told l g cap (Hist.beginP (l.drop j)) v ∧ Below w.heap.size w w' := by
  have hjl : j < l.length := (List.getElem?_eq_some_iff.1 he).1
  have hfn : Hist.firstN (l.drop j) = e.n := by
    unfold Hist.firstN
    rw [List.head?_eq_getElem?, List.getElem?_drop, Nat.add_zero, he]
  have HT := fun w1 => hide (fun (h : LiesF w1 g l) => told_code l g cap j (j * 15) (fun _ => rfl) (by omega) hc hl e.n Mach.zero false w1 h)
  have hbp : Hist.beginP (l.drop j) = Hist.told e.n Mach.zero false (l.drop j) := by unfold Hist.beginP; rw [hfn]
  rw [hbp]
  generalize Hist.told e.n Mach.zero false (l.drop j) = X at *
  have hr := hL.at_ j e he
  have c2 := hr 2 _ rfl
  have hg := hL.lt
  have HL := hide hL
  obtain ⟨m, hm⟩ : ∃ m, l.length - j = m + 1 := ⟨l.length - j - 1, by omega⟩
  have hm1 : m + 1 < 1000000 := by omega
  generalize ((e.n : Nat) : Int) = en at *
  simp only [pval, pcells, slF, hm] at HT ⊢
  clear hr hL hfn hbp he hjl hc hl
  have hz : Mach.zero = ⟨0, 0, ⟨#[]⟩, ⟨#[]⟩, 0, 0, 0, false, false⟩ := rfl
  rw [hz] at HT
  simp only at HT
  clear hz
  go_enter Tryz.func89, Tryz.ntmps89
  go_upto_region 2 with fail
  have X0 := hide (Box.new (w.alloc (.cells #[.int .i64 0, .int .i64 0, .int .i64 0, .string ⟨#[]⟩, .string ⟨#[]⟩, .int .i64 0, .int .i64 0, .int .i64 0, .bool false, .bool false, .bool false, .slice none 0 0] 124)) #[.int .i64 0, .int .i64 0, .int .i64 0, .string ⟨#[]⟩, .string ⟨#[]⟩, .int .i64 0, .int .i64 0, .int .i64 0, .bool false, .bool false, .bool false, .slice (some ⟨g, j * 15, none⟩) (m + 1) (cap - j)] 124)
  have Y0 := hide ((Box.new w #[.int .i64 0, .int .i64 0, .int .i64 0, .string ⟨#[]⟩, .string ⟨#[]⟩, .int .i64 0, .int .i64 0, .int .i64 0, .bool false, .bool false, .bool false, .slice none 0 0] 124).alloc (.cells #[.int .i64 0, .int .i64 0, .int .i64 0, .string ⟨#[]⟩, .string ⟨#[]⟩, .int .i64 0, .int .i64 0, .int .i64 0, .bool false, .bool false, .bool false, .slice (some ⟨g, j * 15, none⟩) (m + 1) (cap - j)] 124))
  have B0 := hide (((Below.refl w.heap.size w).alloc (Nat.le_refl _) (.cells #[.int .i64 0, .int .i64 0, .int .i64 0, .string ⟨#[]⟩, .string ⟨#[]⟩, .int .i64 0, .int .i64 0, .int .i64 0, .bool false, .bool false, .bool false, .slice none 0 0] 124)).alloc (by simp) (.cells #[.int .i64 0, .int .i64 0, .int .i64 0, .string ⟨#[]⟩, .string ⟨#[]⟩, .int .i64 0, .int .i64 0, .int .i64 0, .bool false, .bool false, .bool false, .slice (some ⟨g, j * 15, none⟩) (m + 1) (cap - j)] 124))
  rw [show (w.alloc (.cells #[.int .i64 0, .int .i64 0, .int .i64 0, .string ⟨#[]⟩, .string ⟨#[]⟩, .int .i64 0, .int .i64 0, .int .i64 0, .bool false, .bool false, .bool false, .slice none 0 0] 124)).heap.size = w.heap.size + 1 by simp] at X0
  have c2' := ((unhide B0).cell (p := ⟨g, j * 15 + 2, none⟩) hg).trans c2
  have L0 := hide ((unhide HL).next (unhide B0))
  generalize (w.alloc (.cells #[.int .i64 0, .int .i64 0, .int .i64 0, .string ⟨#[]⟩, .string ⟨#[]⟩, .int .i64 0, .int .i64 0, .int .i64 0, .bool false, .bool false, .bool false, .slice none 0 0] 124)).alloc (.cells #[.int .i64 0, .int .i64 0, .int .i64 0, .string ⟨#[]⟩, .string ⟨#[]⟩, .int .i64 0, .int .i64 0, .int .i64 0, .bool false, .bool false, .bool false, .slice (some ⟨g, j * 15, none⟩) (m + 1) (cap - j)] 124) = wy at *
  clear c2
  obtain ⟨cx, fx, gx⟩ := unhide X0
  clear gx
  have hm2 : (0 : Int) < (m : Int) + 1 := by omega
  go_upto_region 4 with fail
  have X1 := hide ((unhide X0).set 0 (.int .i64 en) (by simp))
  rw [show (#[.int .i64 0, .int .i64 0, .int .i64 0, .string ⟨#[]⟩, .string ⟨#[]⟩, .int .i64 0, .int .i64 0, .int .i64 0, .bool false, .bool false, .bool false, .slice (some ⟨g, j * 15, none⟩) (m + 1) (cap - j)] : Array Value).setIfInBounds 0 (.int .i64 en) = #[.int .i64 en, .int .i64 0, .int .i64 0, .string ⟨#[]⟩, .string ⟨#[]⟩, .int .i64 0, .int .i64 0, .int .i64 0, .bool false, .bool false, .bool false, .slice (some ⟨g, j * 15, none⟩) (m + 1) (cap - j)] by simp] at X1
  have Y1 := hide (Box.off (unhide Y0) (a := ⟨w.heap.size + 1, 0, none⟩) (by simp) (.int .i64 en))
  have B1 := hide ((unhide B0).setCell (p := ⟨w.heap.size + 1, 0, none⟩) (by simp) (.int .i64 en))
  have L1 := hide ((unhide L0).keep (o := [w.heap.size + 1]) ((Keeps.refl wy [w.heap.size + 1]).setCell (a := ⟨w.heap.size + 1, 0, none⟩) (by simp) (.int .i64 en)) (by simp; omega))
  generalize wy.setCell ⟨w.heap.size + 1, 0, none⟩ (.int .i64 en) = wz at *
  clear cx fx
  obtain ⟨cx, fx, gx⟩ := unhide X1
  clear gx
  go_wp2_with fail
  refine (unhide (HT _) (unhide L1)).mono ?_
  rintro r w3 ⟨v, rfl, ht, hb⟩
  obtain ⟨xn, ⟨sn, pc, regs, cells, clock, handler, back, pending, halted⟩, xk, xl⟩ := X
  obtain ⟨j', o', t1, t2, t3, rfl⟩ := ht
  have Y3 := hide ((unhide Y1).next hb)
  have B3 := hide ((unhide B1).trans (hb.mono (unhide B1).size))
  clear hb cx fx
  obtain ⟨cy, fy, gy⟩ := unhide Y3
  clear gy
  have HTT := hide (⟨j', o', t1, t2, t3, rfl⟩ : Told l g cap ⟨xn, ⟨sn, pc, regs, cells, clock, handler, back, pending, halted⟩, xk, xl⟩ (pval xn ⟨sn, pc, regs, cells, clock, handler, back, pending, halted⟩ xk (slF g cap l.length j' o')))
  clear t1 t2 t3
  have cz := ((unhide Y3).putQ (.int .i64 xn) (.int .i64 sn) (.int .i64 pc) (.string regs) (.string cells) (.int .i64 clock) (.int .i64 handler) (.int .i64 back) (.bool pending) (.bool halted) (.bool xk) (slF g cap l.length j' o')).c
  go_wp2_with fail
  refine bodyPost_ret (v := pval xn ⟨sn, pc, regs, cells, clock, handler, back, pending, halted⟩ xk (slF g cap l.length j' o')) (by simp [results, Tryz.results89, go_sem, cz]) rfl ⟨_, rfl, unhide HTT, ?_⟩
  repeat (refine Below.setCell ?_ (by simp) _)
  exact unhide B3
set_option maxRecDepth 100000 in
set_option maxHeartbeats 4000000 in
theorem since_code (l : List Hist.En) (g cap : Nat) (hne : l ≠ []) (hc : l.length ≤ cap) (hl : l.length < 1000000) (n : Int) (w : World) (hL : LiesF w g l) :
    Calls Tryz.prog 88 #[.slice (some ⟨g, 0, none⟩) l.length cap, .int .i64 n] w fun r w' => r = .returned (slF g cap l.length (Hist.fromOf l n) (Hist.fromOf l n * 15)) ∧ w' = w := by
  have hpos := List.length_pos_iff.2 hne
  have HL := hide hL
  clear hL hne
  go_enter Tryz.func88, Tryz.ntmps88
  go_wp2
  go_loop [5, 6] (fun f i => ∃ k : Nat, k ≤ l.length ∧ i = .int .i64 k ∧ f = .int .i64 (Hist.fromUp l n k : Nat)) (fun _ i => l.length - (intOf i).toNat)
  case atStart => exact ⟨0, Nat.zero_le _, rfl, rfl⟩
  case round =>
    obtain ⟨k, hk, rfl, rfl⟩ := hrel
    by_cases hlt : k < l.length
    · obtain ⟨e, he⟩ : ∃ e, l[k]? = some e := ⟨_, List.getElem?_eq_getElem hlt⟩
      have hr := (unhide HL).at_ k e he
      have c0 := hr 0 _ rfl
      have c2 := hr 2 _ rfl
      rw [Nat.add_zero] at c0
      have hup : Hid (Hist.fromUp l n (k + 1) = if e.st = true ∧ (e.n : Int) ≤ n then k else Hist.fromUp l n k) := hide (by
        conv => lhs; unfold Hist.fromUp
        rw [he])
      clear hr he
      cases hst : e.st with
      | false =>
        rw [hst] at c0 hup
        have c0' : w.cell? ⟨g, k * 15, none⟩ = some (.int .u8 69) := c0
        clear c0
        go_wp2
        go_round
        case rel => exact ⟨k + 1, by omega, by go_num, by rw [unhide hup]; simp⟩
        case measure => simp [intOf]; omega
      | true =>
        rw [hst] at c0 hup
        have c0' : w.cell? ⟨g, k * 15, none⟩ = some (.int .u8 67) := c0
        clear c0
        by_cases hn : (e.n : Int) ≤ n
        · go_wp2
          go_round
          case rel => exact ⟨k + 1, by omega, by go_num, by rw [unhide hup, if_pos ⟨rfl, hn⟩]⟩
          case measure => simp [intOf]; omega
        · go_wp2
          go_round
          case rel => exact ⟨k + 1, by omega, by go_num, by rw [unhide hup, if_neg (fun h => hn h.2)]⟩
          case measure => simp [intOf]; omega
    · have hkl : k = l.length := by omega
      subst hkl
      have hf := Hist.fromUp_le l n l.length
      have HF : Hid (Hist.fromUp l n l.length = Hist.fromOf l n) := hide rfl
      generalize Hist.fromUp l n l.length = f at *
      have f1 : (0 : Int) ≤ (f : Int) := by omega
      have f2 : (f : Int) ≤ (l.length : Int) := by omega
      have f3 : ¬ cap = f := by omega
      go_wp2
      go_ret
      exact ⟨by rw [← unhide HF]; rfl, rfl⟩
end Go.Proofs.YtcmoffiigpchiaaGreat
