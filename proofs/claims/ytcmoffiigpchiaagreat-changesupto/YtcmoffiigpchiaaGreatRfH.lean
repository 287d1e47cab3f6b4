import Derived.Test.YtcmoffiigpchiaaGreatRfG
import Derived.Test.YtcmoffiigpchiaaGreatSameW
namespace Go.Proofs.YtcmoffiigpchiaaGreat
open Go.RowKit

theorem bounds_ref (p : ByteArray) (hp : p.size ≤ maxLen) (l : List Hist.En) (hR : Hist.IsRun l) (hl : l.length < 1000000) (v : Value) (n : Int) (w0 w : World) (hE : ERow w0 w v l) :
    Calls Tryz.prog 62 #[.string p, v, .int .i64 n] w fun e w' => e = .returned (.int .i64 (Hist.atErr p l n)) ∧ Below w.heap.size w w' := by
  by_cases h0 : l = []
  · have hv := hE.2.2 h0
    subst h0 hv
    exact bounds_none p hp n w
  · obtain ⟨g, cap, rfl⟩ := hE.some h0
    exact bounds_some p hp l hR h0 hl g cap n w (LiesE.of hE.1)
namespace Hist
theorem atErr_zero {p : ByteArray} {l : List En} {n : Int} (h : atErr p l n = 0) : (Code.chk p).1 = 0 ∧ l ≠ [] ∧ ¬ n < firstN l ∧ ¬ lastTo l < n := by
  unfold atErr at h
  split at h
  · rename_i h1; exact absurd h h1
  · rename_i h1
    split at h
    · cases h
    · rename_i h2
      split at h
      · cases h
      · rename_i h3
        split at h
        · cases h
        · rename_i h4
          exact ⟨by simpa using h1, h2, h3, h4⟩
theorem atOf_err {p : ByteArray} {l : List En} {n : Int} (h : atErr p l n ≠ 0) : atOf p l n = (Mach.zero, atErr p l n) := by
  unfold atOf
  rw [if_pos h]
theorem atErr_bound (p : ByteArray) (l : List En) (n : Int) : 0 ≤ atErr p l n ∧ atErr p l n ≤ 8 := by
  have := chk_bound p
  unfold atErr
  split
  · omega
  · split
    · omega
    · split
      · omega
      · split <;> omega
theorem atOf_bound (p : ByteArray) (l : List En) (n : Int) : 0 ≤ (atOf p l n).2 ∧ (atOf p l n).2 ≤ 9 := by
  have := atErr_bound p l n
  unfold atOf
  split
  · simp only; omega
  · split <;> simp
end Hist

set_option maxRecDepth 100000 in
set_option maxHeartbeats 4000000 in
theorem rat_ref (p t : ByteArray) (hp : p.size ≤ maxLen) (ht : t.size ≤ 1048576) (n : Int) (w : World) :
    Calls Tryz.prog 36 #[.string p, .string t, .int .i64 n] w fun e w' => e = .returned (.tuple #[(Hist.atOf p (Hist.run t) n).1.val, .int .i64 (Hist.atOf p (Hist.run t) n).2]) ∧ Below w.heap.size w w' := by
  have HRn := hide (run_ref t ht)
  have hn := Hist.run_length t
  have hR := Hist.run_isRun t
  have HBo := fun v w0 w1 => hide (fun hE => bounds_ref p hp (Hist.run t) hR (by omega) v n w0 w1 hE)
  by_cases h0 : Hist.atErr p (Hist.run t) n = 0
  · obtain ⟨hc, hne, h1, h2⟩ := Hist.atErr_zero h0
    have hT : Hist.Tells (Hist.run t) n := ⟨hR, hne, by omega⟩
    have hat := Hist.atOf_in hc hne h1 h2
    have HSt := fun g cap w1 => hide (fun hL rs ok hr => stood_ref p hc (Hist.run t) g cap n w1 hT (by omega) hL rs ok hr)
    have HSO : Hid (∀ w0 w1 v, ERow w0 w1 v (Hist.run t) → ∃ g cap, v = .slice (some ⟨g, 0, none⟩) (Hist.run t).length cap ∧ LiesE w1 g (Hist.run t)) := hide (fun w0 w1 v hE => by
      obtain ⟨g, cap, rfl⟩ := hE.some hne
      exact ⟨g, cap, rfl, LiesE.of hE.1⟩)
    rw [h0] at HBo
    cases hso : Hist.stood p (Hist.run t) n with
    | none =>
      rw [hso] at hat HSt
      simp only at hat
      rw [hat]
      clear hat hso hT hR hn h1 h2 hne hc h0
      generalize Hist.run t = l at *
      go_enter Tryz.func36, Tryz.ntmps36
      go_wp2_with fail
      refine (unhide HRn _).mono ?_
      rintro e w1 ⟨v, rfl, hE⟩
      have HE := hide hE
      have B1 := hide hE.2.1
      clear hE
      go_wp2_with fail
      refine (unhide (HBo _ _ _) (unhide HE)).mono ?_
      rintro e w2 ⟨rfl, hb⟩
      have E2 := hide ((unhide HE).next hb)
      have B2 := hide ((unhide B1).trans (hb.mono (unhide B1).size))
      clear hb
      obtain ⟨g, cap, rfl, hL⟩ := unhide HSO _ _ _ (unhide E2)
      have HL := hide hL
      clear hL
      have HS0 := hide (unhide (HSt g cap _) (unhide HL) Mach.zero false rfl)
      rw [show Mach.zero.val = .agg #[.int .i64 0, .int .i64 0, .string ⟨#[]⟩, .string ⟨#[]⟩, .int .i64 0, .int .i64 0, .int .i64 0, .bool false, .bool false] from rfl] at HS0
      go_wp2_with fail
      refine (unhide HS0).mono ?_
      rintro e w3 ⟨rfl, hb⟩
      have B3 := hide ((unhide B2).trans (hb.mono (unhide B2).size))
      have Y3 := hide (((Box.new w #[.int .i64 0, .int .i64 0, .string ⟨#[]⟩, .string ⟨#[]⟩, .int .i64 0, .int .i64 0, .int .i64 0, .bool false, .bool false] 30).next (unhide B3)).alloc (.cells #[.int .i64 0, .int .i64 0, .string ⟨#[]⟩, .string ⟨#[]⟩, .int .i64 0, .int .i64 0, .int .i64 0, .bool false, .bool false] 30))
      have B4 := hide ((bel_alloc (unhide B3)).alloc (Nat.le_trans (by simp) (unhide B3).size) (.cells #[.int .i64 0, .int .i64 0, .string ⟨#[]⟩, .string ⟨#[]⟩, .int .i64 0, .int .i64 0, .int .i64 0, .bool false, .bool false] 30))
      clear hb
      go_upto_region 6 with fail
      generalize w3.alloc (.cells #[.int .i64 0, .int .i64 0, .string ⟨#[]⟩, .string ⟨#[]⟩, .int .i64 0, .int .i64 0, .int .i64 0, .bool false, .bool false] 30) = w4 at *
      obtain ⟨cy, fy, gy⟩ := unhide Y3
      clear gy
      have cq := (nine_boxR (unhide Y3) (.int .i64 0) (.int .i64 0) (.string ⟨#[]⟩) (.string ⟨#[]⟩) (.int .i64 0) (.int .i64 0) (.int .i64 0) (.bool false) (.bool false)).c
      go_wp2_with fail
      refine bodyPost_ret (v := .tuple #[.agg #[.int .i64 0, .int .i64 0, .string ⟨#[]⟩, .string ⟨#[]⟩, .int .i64 0, .int .i64 0, .int .i64 0, .bool false, .bool false], .int .i64 9]) (by simp [results, Tryz.results36, go_sem, cq]) rfl ⟨rfl, ?_⟩
      repeat (refine Below.setCell ?_ (by simp) _)
      exact unhide B4
    | some s =>
      rw [hso] at hat HSt
      simp only at hat
      rw [hat]
      clear hat hso hT hR hn h1 h2 hne hc h0
      generalize Hist.run t = l at *
      obtain ⟨sn, pc, regs, cells, clock, handler, back, pending, halted⟩ := s
      go_enter Tryz.func36, Tryz.ntmps36
      go_wp2_with fail
      refine (unhide HRn _).mono ?_
      rintro e w1 ⟨v, rfl, hE⟩
      have HE := hide hE
      have B1 := hide hE.2.1
      clear hE
      go_wp2_with fail
      refine (unhide (HBo _ _ _) (unhide HE)).mono ?_
      rintro e w2 ⟨rfl, hb⟩
      have E2 := hide ((unhide HE).next hb)
      have B2 := hide ((unhide B1).trans (hb.mono (unhide B1).size))
      clear hb
      obtain ⟨g, cap, rfl, hL⟩ := unhide HSO _ _ _ (unhide E2)
      have HL := hide hL
      clear hL
      go_wp2_with fail
      refine (unhide (HSt g cap _) (unhide HL) ⟨sn, pc, regs, cells, clock, handler, back, pending, halted⟩ true rfl).mono ?_
      rintro e w3 ⟨rfl, hb⟩
      have B3 := hide ((unhide B2).trans (hb.mono (unhide B2).size))
      have Y3 := hide (((Box.new w #[.int .i64 0, .int .i64 0, .string ⟨#[]⟩, .string ⟨#[]⟩, .int .i64 0, .int .i64 0, .int .i64 0, .bool false, .bool false] 30).next (unhide B3)).alloc (.cells #[.int .i64 sn, .int .i64 pc, .string regs, .string cells, .int .i64 clock, .int .i64 handler, .int .i64 back, .bool pending, .bool halted] 30))
      have V3 := hide (Box.new w3 #[.int .i64 sn, .int .i64 pc, .string regs, .string cells, .int .i64 clock, .int .i64 handler, .int .i64 back, .bool pending, .bool halted] 30)
      have hlt := ((Box.new w #[.int .i64 0, .int .i64 0, .string ⟨#[]⟩, .string ⟨#[]⟩, .int .i64 0, .int .i64 0, .int .i64 0, .bool false, .bool false] 30).next (unhide B3)).lt
      have q1 : ¬ w3.heap.size = w.heap.size := by omega
      have q2 : ¬ w.heap.size = w3.heap.size := by omega
      have B4 := hide ((bel_alloc (unhide B3)).alloc (Nat.le_trans (by simp) (unhide B3).size) (.cells #[.int .i64 sn, .int .i64 pc, .string regs, .string cells, .int .i64 clock, .int .i64 handler, .int .i64 back, .bool pending, .bool halted] 30))
      clear hb
      go_upto_region 6 with fail
      generalize w3.alloc (.cells #[.int .i64 sn, .int .i64 pc, .string regs, .string cells, .int .i64 clock, .int .i64 handler, .int .i64 back, .bool pending, .bool halted] 30) = w4 at *
      obtain ⟨cy, fy, gy⟩ := unhide Y3
      obtain ⟨cv, fv', gv⟩ := unhide V3
      clear gy gv
      have cq := (nine_boxR (unhide Y3) (.int .i64 sn) (.int .i64 pc) (.string regs) (.string cells) (.int .i64 clock) (.int .i64 handler) (.int .i64 back) (.bool pending) (.bool halted)).c
      go_wp2_with fail
      refine bodyPost_ret (v := .tuple #[.agg #[.int .i64 sn, .int .i64 pc, .string regs, .string cells, .int .i64 clock, .int .i64 handler, .int .i64 back, .bool pending, .bool halted], .int .i64 0]) (by simp [results, Tryz.results36, go_sem, cq]) rfl ⟨rfl, ?_⟩
      repeat (refine Below.setCell ?_ (by simp) _)
      exact unhide B4
  · rw [Hist.atOf_err h0]
    have d : (Hist.atErr p (Hist.run t) n != 0) = true := by simp [h0]
    generalize Hist.atErr p (Hist.run t) n = er at *
    generalize Hist.run t = l at *
    clear h0 hR hn
    go_enter Tryz.func36, Tryz.ntmps36
    go_wp2_with fail
    refine (unhide HRn _).mono ?_
    rintro e w1 ⟨v, rfl, hE⟩
    have HE := hide hE
    have B1 := hide hE.2.1
    clear hE
    go_wp2_with fail
    refine (unhide (HBo _ _ _) (unhide HE)).mono ?_
    rintro e w2 ⟨rfl, hb⟩
    have B2 := hide ((unhide B1).trans (hb.mono (unhide B1).size))
    have Y2 := hide ((Box.new w #[.int .i64 0, .int .i64 0, .string ⟨#[]⟩, .string ⟨#[]⟩, .int .i64 0, .int .i64 0, .int .i64 0, .bool false, .bool false] 30).next (unhide B2))
    clear hb
    obtain ⟨cy, fy, gy⟩ := unhide Y2
    clear gy
    have cq := (nine_boxR (unhide Y2) (.int .i64 0) (.int .i64 0) (.string ⟨#[]⟩) (.string ⟨#[]⟩) (.int .i64 0) (.int .i64 0) (.int .i64 0) (.bool false) (.bool false)).c
    go_wp2_with fail
    refine bodyPost_ret (v := .tuple #[.agg #[.int .i64 0, .int .i64 0, .string ⟨#[]⟩, .string ⟨#[]⟩, .int .i64 0, .int .i64 0, .int .i64 0, .bool false, .bool false], .int .i64 er]) (by simp [results, Tryz.results36, go_sem, cq]) rfl ⟨rfl, ?_⟩
    repeat (refine Below.setCell ?_ (by simp) _)
    exact bel_alloc (unhide B2)
end Go.Proofs.YtcmoffiigpchiaaGreat

namespace Go.Proofs.YtcmoffiigpchiaaGreat
open Go.RowKit

set_option maxRecDepth 100000 in
set_option maxHeartbeats 4000000 in
theorem at_law (p t : ByteArray) (hp : p.size ≤ maxLen) (ht : t.size ≤ 1048576) (n : Int) (w : World) :
    Calls Tryz.prog 18 #[.string p, .string t, .int .i64 n] w fun e w' => e = .returned (.bool true) ∧ Below w.heap.size w w' := by
  have H1 := hide (at_api p t hp ht n)
  have H2 := hide (rat_ref p t hp ht n)
  have hb := Hist.atOf_bound p (Hist.run t) n
  generalize Hist.atOf p (Hist.run t) n = A at *
  obtain ⟨⟨sn, pc, regs, cells, clock, handler, back, pending, halted⟩, er⟩ := A
  simp only at hb H1 H2
  have H3 := hide (num_law er (by omega))
  have H4 := hide (same_law ⟨sn, pc, regs, cells, clock, handler, back, pending, halted⟩)
  clear hb
  go_enter Tryz.func18, Tryz.ntmps18
  go_wp2_with fail
  refine (unhide H1 _).mono ?_
  rintro e w1 ⟨rfl, hb⟩
  have B1 := hide hb
  clear hb
  go_wp2_with fail
  refine (unhide H2 _).mono ?_
  rintro e w2 ⟨rfl, hb⟩
  have X2 := hide ((Box.new w1 #[.int .i64 sn, .int .i64 pc, .string regs, .string cells, .int .i64 clock, .int .i64 handler, .int .i64 back, .bool pending, .bool halted] 30).next hb)
  have B2 := hide ((unhide B1).trans ((bel_alloc hb).mono (unhide B1).size))
  have hlt := (unhide X2).lt
  clear hb
  go_upto_region 3 with fail
  have X3 := hide ((unhide X2).alloc (.cells #[.int .i64 sn, .int .i64 pc, .string regs, .string cells, .int .i64 clock, .int .i64 handler, .int .i64 back, .bool pending, .bool halted] 30))
  have Y3 := hide (Box.new w2 #[.int .i64 sn, .int .i64 pc, .string regs, .string cells, .int .i64 clock, .int .i64 handler, .int .i64 back, .bool pending, .bool halted] 30)
  have B3 := hide ((unhide B2).alloc (unhide B2).size (.cells #[.int .i64 sn, .int .i64 pc, .string regs, .string cells, .int .i64 clock, .int .i64 handler, .int .i64 back, .bool pending, .bool halted] 30))
  generalize w2.alloc (.cells #[.int .i64 sn, .int .i64 pc, .string regs, .string cells, .int .i64 clock, .int .i64 handler, .int .i64 back, .bool pending, .bool halted] 30) = w3 at *
  obtain ⟨cx, fx, gx⟩ := unhide X3
  obtain ⟨cy, fy, gy⟩ := unhide Y3
  clear gx gy
  go_wp2_with fail
  refine (unhide H4 _).mono ?_
  rintro e w4 ⟨rfl, hb⟩
  have B4 := hide ((unhide B3).trans (hb.mono (unhide B3).size))
  clear hb cx fx cy fy
  go_wp2_with fail
  refine (unhide H3 _).mono ?_
  rintro e w5 ⟨rfl, hw⟩
  obtain rfl := hw.symm
  go_wp2_with fail
  refine (unhide H3 _).mono ?_
  rintro e w5 ⟨rfl, hw⟩
  obtain rfl := hw.symm
  go_wp2_with fail
  go_ret
  exact ⟨by simp, unhide B4⟩

set_option maxRecDepth 100000 in
set_option maxHeartbeats 1000000 in
theorem step_at (o : OpV) (ho : o.Ok) (hs : o.Small) (hk : o.kind = 10) (p : Value) (w : World) :
    Calls Tryz.prog 11 #[p, o.val] w fun e w' => e = .returned (.bool true) ∧ Below w.heap.size w w' := by
  have H := hide (at_law o.p o.b ho.p hs.b o.x)
  clear hs ho
  obtain ⟨kind, m, pp, b, ⟨n, pc, regs, cells, clock, handler, back, pending, halted⟩, ⟨input, ticks, interrupt⟩, x, y⟩ := o
  simp only at hk
  subst hk
  unfold OpV.val OpV.cells
  simp only at *
  go_enter Tryz.func11, Tryz.ntmps11
  go_wp2_with (go_at_call 18; refine (unhide H _).mono ?_; rintro e w' ⟨rfl, hb⟩)
  go_ret
  exact ⟨rfl, bel_alloc hb⟩
end Go.Proofs.YtcmoffiigpchiaaGreat
