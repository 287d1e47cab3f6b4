import Derived.Test.YtcmoffiigpchiaaGreatRfB
namespace Go.Proofs.YtcmoffiigpchiaaGreat
open Go.RowKit

theorem putE_arr (a0 a1 a2 a3 a4 a5 a6 a7 a8 a9 a10 a11 a12 a13 v0 v1 v2 v3 v4 v5 v6 v7 v8 v9 v10 v11 v12 v13 : Value) : ((((((((((((((#[a0, a1, a2, a3, a4, a5, a6, a7, a8, a9, a10, a11, a12, a13].setIfInBounds 0 v0).setIfInBounds 1 v1).setIfInBounds 2 v2).setIfInBounds 3 v3).setIfInBounds 4 v4).setIfInBounds 5 v5).setIfInBounds 6 v6).setIfInBounds 7 v7).setIfInBounds 8 v8).setIfInBounds 9 v9).setIfInBounds 10 v10).setIfInBounds 11 v11).setIfInBounds 12 v12).setIfInBounds 13 v13) = #[v0, v1, v2, v3, v4, v5, v6, v7, v8, v9, v10, v11, v12, v13] := by simp
theorem Box.putE {w : World} {b : Nat} {a0 a1 a2 a3 a4 a5 a6 a7 a8 a9 a10 a11 a12 a13 : Value} (h : Box w b #[a0, a1, a2, a3, a4, a5, a6, a7, a8, a9, a10, a11, a12, a13]) (v0 v1 v2 v3 v4 v5 v6 v7 v8 v9 v10 v11 v12 v13 : Value) :
    Box ((((((((((((((w.setCell ⟨b, 0, none⟩ v0).setCell ⟨b, 1, none⟩ v1).setCell ⟨b, 2, none⟩ v2).setCell ⟨b, 3, none⟩ v3).setCell ⟨b, 4, none⟩ v4).setCell ⟨b, 5, none⟩ v5).setCell ⟨b, 6, none⟩ v6).setCell ⟨b, 7, none⟩ v7).setCell ⟨b, 8, none⟩ v8).setCell ⟨b, 9, none⟩ v9).setCell ⟨b, 10, none⟩ v10).setCell ⟨b, 11, none⟩ v11).setCell ⟨b, 12, none⟩ v12).setCell ⟨b, 13, none⟩ v13) b #[v0, v1, v2, v3, v4, v5, v6, v7, v8, v9, v10, v11, v12, v13] := by
  rw [← putE_arr a0 a1 a2 a3 a4 a5 a6 a7 a8 a9 a10 a11 a12 a13 v0 v1 v2 v3 v4 v5 v6 v7 v8 v9 v10 v11 v12 v13]
  exact ((((((((((((((h.set 0 v0 (by simp)).set 1 v1 (by simp)).set 2 v2 (by simp)).set 3 v3 (by simp)).set 4 v4 (by simp)).set 5 v5 (by simp)).set 6 v6 (by simp)).set 7 v7 (by simp)).set 8 v8 (by simp)).set 9 v9 (by simp)).set 10 v10 (by simp)).set 11 v11 (by simp)).set 12 v12 (by simp)).set 13 v13 (by simp))

/-- What the document makes of a frame, whether it can be written or not. -/
def Hist.rawE (t : ByteArray) : Hist.En := if Code.byt t 0 = 67 then Hist.enC t else Hist.enE t
theorem Hist.rawE_read (t : ByteArray) {e : Hist.En} (h : Hist.read t = some e) : e = Hist.rawE t := by
  unfold Hist.rawE
  by_cases h0 : Code.byt t 0 = 67
  · rw [Hist.read_C h0] at h
    split at h
    · cases h; rw [if_pos h0]
    · cases h
  · rw [Hist.read_E h0] at h
    split at h
    · cases h; rw [if_neg h0]
    · cases h

set_option maxRecDepth 100000 in
set_option maxHeartbeats 4000000 in
theorem entry_c (t : ByteArray) (ht : t.size = 40) (h0 : Code.byt t 0 = 67) (w : World) :
    Calls Tryz.prog 86 #[.string t] w fun e w' => e = .returned (.tuple #[(Hist.enC t).eval, .bool (Hist.okC t)]) ∧ Below w.heap.size w w' := by
  have hf0 := Code.byt_eq t 0 (by omega)
  have f0c : ((Code.byt t 0 : Nat) : Int) = 67 := by omega
  have HS := hide (state_ref t ht)
  have hv : (Hist.enC t).eval = ev true (Hist.stOf t).n (Hist.stOf t) Hist.noCh := rfl
  rw [hv]
  clear hv
  generalize Hist.stOf t = s at *
  generalize Hist.okC t = okc at *
  obtain ⟨sn, pc, regs, cells, clock, handler, back, pending, halted⟩ := s
  go_enter Tryz.func86, Tryz.ntmps86
  go_wp2_with fail
  refine (unhide HS _).mono ?_
  rintro e w1 ⟨rfl, hb⟩
  have Y1 := hide ((Box.new w #[.bool false, .int .i64 0, .int .i64 0, .int .i64 0, .string ⟨#[]⟩, .string ⟨#[]⟩, .int .i64 0, .int .i64 0, .int .i64 0, .bool false, .bool false, .int .i64 0, .int .i64 0, .bool false] 87).next hb)
  have B1 := hide (bel_alloc hb)
  clear hb HS
  obtain ⟨cy, fy, gy⟩ := unhide Y1
  have hne : ¬ w1.heap.size = w.heap.size := by omega
  have hne2 : ¬ w.heap.size = w1.heap.size := by omega
  go_upto_region 3 with fail
  have X2 := hide (Box.new w1 #[.int .i64 sn, .int .i64 pc, .string regs, .string cells, .int .i64 clock, .int .i64 handler, .int .i64 back, .bool pending, .bool halted] 30)
  have Y2 := hide ((unhide Y1).alloc (.cells #[.int .i64 sn, .int .i64 pc, .string regs, .string cells, .int .i64 clock, .int .i64 handler, .int .i64 back, .bool pending, .bool halted] 30))
  have B2 := hide ((unhide B1).alloc (by omega) (.cells #[.int .i64 sn, .int .i64 pc, .string regs, .string cells, .int .i64 clock, .int .i64 handler, .int .i64 back, .bool pending, .bool halted] 30))
  generalize w1.alloc (.cells #[.int .i64 sn, .int .i64 pc, .string regs, .string cells, .int .i64 clock, .int .i64 handler, .int .i64 back, .bool pending, .bool halted] 30) = wy at *
  clear cy fy gy
  obtain ⟨cx, fx, gx⟩ := unhide X2
  obtain ⟨cy, fy, gy⟩ := unhide Y2
  clear gx gy
  have cz := ((unhide Y2).putE (.bool true) (.int .i64 sn) (.int .i64 sn) (.int .i64 pc) (.string regs) (.string cells) (.int .i64 clock) (.int .i64 handler) (.int .i64 back) (.bool pending) (.bool halted) (.int .i64 0) (.int .i64 0) (.bool false)).c
  go_wp2_with fail
  refine bodyPost_ret (v := .tuple #[.agg #[.bool true, .int .i64 sn, .int .i64 sn, .int .i64 pc, .string regs, .string cells, .int .i64 clock, .int .i64 handler, .int .i64 back, .bool pending, .bool halted, .int .i64 0, .int .i64 0, .bool false], .bool okc]) (by simp [results, Tryz.results86, go_sem, cz]) rfl ⟨rfl, ?_⟩
  repeat (refine Below.setCell ?_ (by simp) _)
  exact unhide B2

set_option maxRecDepth 100000 in
set_option maxHeartbeats 4000000 in
theorem entry_e (t : ByteArray) (ht : t.size = 40) (h0 : ¬ Code.byt t 0 = 67) (w : World) :
    Calls Tryz.prog 86 #[.string t] w fun e w' => e = .returned (.tuple #[(Hist.enE t).eval, .bool (Hist.okE t)]) ∧ Below w.heap.size w w' := by
  have hf0 := Code.byt_eq t 0 (by omega)
  have f0c : ¬ ((Code.byt t 0 : Nat) : Int) = 67 := by omega
  have HS := hide (choice_ref t ht)
  have hv : (Hist.enE t).eval = ev false (Hist.nOf t : Nat) Mach.zero (Hist.chOf t) := rfl
  rw [hv]
  clear hv
  generalize Hist.chOf t = c at *
  generalize ((Hist.nOf t : Nat) : Int) = nn at *
  generalize Hist.okE t = okc at *
  obtain ⟨input, ticks, interrupt⟩ := c
  go_enter Tryz.func86, Tryz.ntmps86
  go_wp2_with fail
  refine (unhide HS _).mono ?_
  rintro e w1 ⟨rfl, hb⟩
  have Y1 := hide ((Box.new w #[.bool false, .int .i64 0, .int .i64 0, .int .i64 0, .string ⟨#[]⟩, .string ⟨#[]⟩, .int .i64 0, .int .i64 0, .int .i64 0, .bool false, .bool false, .int .i64 0, .int .i64 0, .bool false] 87).next hb)
  have B1 := hide (bel_alloc hb)
  clear hb HS
  obtain ⟨cy, fy, gy⟩ := unhide Y1
  have hne : ¬ w1.heap.size = w.heap.size := by omega
  have hne2 : ¬ w.heap.size = w1.heap.size := by omega
  go_upto_region 5 with fail
  have X2 := hide (Box.new w1 #[.int .i64 input, .int .i64 ticks, .bool interrupt] 32)
  have Y2 := hide ((unhide Y1).alloc (.cells #[.int .i64 input, .int .i64 ticks, .bool interrupt] 32))
  have B2 := hide ((unhide B1).alloc (by omega) (.cells #[.int .i64 input, .int .i64 ticks, .bool interrupt] 32))
  generalize w1.alloc (.cells #[.int .i64 input, .int .i64 ticks, .bool interrupt] 32) = wy at *
  clear cy fy gy
  obtain ⟨cx, fx, gx⟩ := unhide X2
  obtain ⟨cy, fy, gy⟩ := unhide Y2
  clear gx gy
  have cz := ((unhide Y2).putE (.bool false) (.int .i64 nn) (.int .i64 0) (.int .i64 0) (.string ⟨#[]⟩) (.string ⟨#[]⟩) (.int .i64 0) (.int .i64 0) (.int .i64 0) (.bool false) (.bool false) (.int .i64 input) (.int .i64 ticks) (.bool interrupt)).c
  go_wp2_with fail
  refine bodyPost_ret (v := .tuple #[.agg #[.bool false, .int .i64 nn, .int .i64 0, .int .i64 0, .string ⟨#[]⟩, .string ⟨#[]⟩, .int .i64 0, .int .i64 0, .int .i64 0, .bool false, .bool false, .int .i64 input, .int .i64 ticks, .bool interrupt], .bool okc]) (by simp [results, Tryz.results86, go_sem, cz]) rfl ⟨rfl, ?_⟩
  repeat (refine Below.setCell ?_ (by simp) _)
  exact unhide B2

theorem entry_ref (t : ByteArray) (ht : t.size = 40) (w : World) :
    Calls Tryz.prog 86 #[.string t] w fun e w' => e = .returned (.tuple #[(Hist.rawE t).eval, .bool (Hist.read t).isSome]) ∧ Below w.heap.size w w' := by
  by_cases h0 : Code.byt t 0 = 67
  · have e1 : Hist.rawE t = Hist.enC t := if_pos h0
    have e2 : (Hist.read t).isSome = Hist.okC t := by
      rw [Hist.read_C h0]
      cases Hist.okC t <;> rfl
    rw [e1, e2]
    exact entry_c t ht h0 w
  · have e1 : Hist.rawE t = Hist.enE t := if_neg h0
    have e2 : (Hist.read t).isSome = Hist.okE t := by
      rw [Hist.read_E h0]
      cases Hist.okE t <;> rfl
    rw [e1, e2]
    exact entry_e t ht h0 w
end Go.Proofs.YtcmoffiigpchiaaGreat
