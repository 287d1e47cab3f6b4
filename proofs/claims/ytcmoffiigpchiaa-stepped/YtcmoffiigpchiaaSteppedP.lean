import Derived.Test.YtcmoffiigpchiaaKeepK
namespace Go.Proofs.Ytcmoffiigpchiaa
open Go.ChangeShapes Go.WideShapes Go.ChangeAt Go.RowKit
open Go.ChangeMaps (open_string shut_string)
namespace SteppedP
open Keep

set_option maxRecDepth 100000 in
set_option maxHeartbeats 1000000 in
theorem walk (a1 : Option Addr) (len1 cap1 : Nat) (V1 : Nat → Int) (h1 : (len1 : Int) ≤ 9223372036854775807) (room period : Int) (hr : i64ok room) (hq : i64ok period) (a2 : Option Addr) (len2 cap2 : Nat) (V2 : Nat → Int) (h2 : len2 < 1000000000000000000) (save : Int) (hs : i64ok save) (w : World) (I1 : Ints w a1 len1 V1) (I2 : Ints w a2 len2 V2) :
    Calls Try.prog 3 #[.slice a1 len1 cap1, .int .i64 room, .int .i64 period, .slice a2 len2 cap2, .int .i64 save] w fun e w' => e = .returned (.bool true) ∧ Below w.heap.size w w' := by
  have HP := hide (program_k a1 len1 cap1 h1 V1 w I1)
  have hp := progB_good V1 (min len1 32) (by omega)
  have k1 := kp_lt room (n := 63) (by decide)
  have k2 := kp_lt period (n := 50) (by decide)
  have k3 := kp_lt 0 (n := 63) (by decide)
  have k4 := kp_lt 0 (n := 50) (by decide)
  generalize progB V1 (min len1 32) = p at *
  have HB1 := hide (begin_k p hp room period hr hq)
  have HB2 := hide (begin_k p hp 0 0 (by unfold i64ok; omega) (by unfold i64ok; omega))
  have R1 := hide (runs_new (V := V2) (n := 2 + kp save 60) (room := 2 + (kp room 63 : Int)) (period := 1 + (kp period 50 : Int)) hp (by omega) (by omega) (by omega) (by omega))
  have R2 := hide (runs_new (V := V2) (n := 2 + kp save 60) (room := 2 + (kp 0 63 : Int)) (period := 1 + (kp 0 50 : Int)) hp (by omega) (by omega) (by omega) (by omega))
  generalize RM.new p (2 + (kp room 63 : Int)) (1 + (kp period 50 : Int)) = mf at *
  generalize RM.new p (2 + (kp 0 63 : Int)) (1 + (kp 0 50 : Int)) = mg at *
  have HI2 := hide I2
  clear I1 I2 hr hq hp
  go_enter Try.func3, Try.ntmps3
  go_wp2_with fail
  refine (unhide HP).mono ?_
  rintro e w1 ⟨rfl, hd⟩
  have L1 := hide (drawn_below hd)
  clear hd
  go_wp2_with fail
  refine (unhide HB1 _).mono ?_
  rintro e w2 ⟨fb, xb, r, cap, rfl, hF, hb⟩
  have F2 := hide hF
  have L2 := hide (bel_then (unhide L1) hb)
  have lf := FilmAt.lt hF
  have s1 := (unhide L1).size
  have s2 := hb.size
  clear hF hb
  go_wp2_with fail
  refine (unhide HB2 _).mono ?_
  rintro e w3 ⟨gb, yb, s, cap', rfl, hG, hb⟩
  have F3 := hide ((unhide F2).next hb)
  have G3 := hide hG
  have L3 := hide (bel_then (unhide L2) hb)
  have lg := FilmAt.lt hG
  have s3 := hb.size
  clear hG hb
  have HG1 := hide (goes_k w1.heap.size fb xb r cap p mf a2 len2 cap2 h2 V2 save hs w3 (Keep.ints_at (unhide HI2) s1 (unhide L3).block) (unhide F3) (unhide R1))
  go_wp2_with fail
  refine (unhide HG1).mono ?_
  rintro e w4 ⟨rfl, m4, r4, c4, l4, v4, hF, hR, hr4, hk4, h40, h41⟩
  have F4 := hide hF
  have Q4 := hide hR
  have G4 := hide ((unhide G3).keeps hk4 (by simp; omega) (by simp; omega) (by simp; omega))
  have K4 := hide hk4
  have lf4 := FilmAt.lt hF
  have s4 := hk4.size
  have L4 := hide (below_list (unhide L3) hk4 (by simp; omega))
  clear hF hR hk4 h40 h41
  have HG2 := hide (goes_k w2.heap.size gb yb s cap' p mg a2 len2 cap2 h2 V2 save hs w4 (Keep.ints_at (unhide HI2) (Nat.le_trans s1 s2) (unhide L4).block) (unhide G4) (unhide R2))
  go_wp2_with fail
  refine (unhide HG2).mono ?_
  rintro e w5 ⟨rfl, m5, r5, c5, l5, v5, hG, hR, hr5, hk5, h50, h51⟩
  have G5 := hide hG
  have Q5 := hide hR
  have F5 := hide ((unhide F4).keeps hk5 (by simp; omega) (by simp; omega) (by simp; omega))
  have s5 := hk5.size
  have L5 := hide (below_list (unhide L4) hk5 (by simp; omega))
  clear hG hR hk5 h50 h51
  have HT1 := hide (fun W hW => tells_k w1.heap.size fb xb r4 c4 p m4 l4 v4 (unhide Q4).state (runs_len (unhide Q4)).1 (runs_len (unhide Q4)).2 W hW)
  have HT2 := hide (fun W hW => tells_k w2.heap.size gb yb r5 c5 p m5 l5 v5 (unhide Q5).state (runs_len (unhide Q5)).1 (runs_len (unhide Q5)).2 W hW)
  go_wp2_with fail
  refine (unhide HT1 _ (unhide F5)).mono ?_
  rintro e w6 ⟨rfl, hb⟩
  have F6 := hide ((unhide F5).next hb)
  have G6 := hide ((unhide G5).next hb)
  have L6 := hide (bel_then (unhide L5) hb)
  clear hb
  go_wp2_with fail
  refine (unhide HT2 _ (unhide G6)).mono ?_
  rintro e w7 ⟨rfl, hb⟩
  have F7 := hide ((unhide F6).next hb)
  have G7 := hide ((unhide G6).next hb)
  have L7 := hide (bel_then (unhide L6) hb)
  clear hb
  obtain ⟨c1, f1, g1⟩ := (unhide F7).box
  obtain ⟨c2, f2, g2⟩ := (unhide G7).box
  have hll : l5.length = l4.length := by rw [(unhide Q5).list, (unhide Q4).list]
  have hle : ((l4.length : Int) == (l5.length : Int)) = true := by simp [hll]
  have HLL := hide hll
  clear hll
  go_upto_region 10 with fail
  go_quiet (fail)
  go_wp2_with fail
  go_ret
  have h7 := unhide L7
  exact ⟨rfl, ⟨h7.os, h7.tape, h7.output, h7.size, h7.block⟩⟩

set_option maxRecDepth 100000 in
theorem lifted (os : Os) (started : os.Started) (H : Type) (enc : TypeId × Value → H) :
    ReturnsInHanded {} Try.checked os 3 .any (Rows.steppedSpec.pre6 enc Try.prog Try.f3 Rows.steppedRow.domain false) (Rows.steppedSpec.post enc Try.prog Try.f3 false true false false) := by
  refine returnsInHanded_of_change_sized (C := Try.checked) own started (by kernel_rfl) Try.func3
    (ChangeSpec.witness6 (enc := enc) (C := Try.checked) false ⟨#[], #[.slice none 0 0, .int .i64 0, .int .i64 0, .slice none 0 0, .int .i64 0], []⟩ 8 (by kernel_rfl) (by kernel_rfl) (by kernel_rfl) (by kernel_rfl)) ?_
  intro W base args ds gs before hval0 hW hcnd hsz0 _
  have hval : ∀ (j : Nat) t v, Try.f3.params[j]? = some t → args[j]? = some v → Value.okWide Try.prog W .any base t v := hval0
  have hW' := hW
  obtain ⟨p, q, hA0, hV, rfl, hfz, hnd⟩ := hW
  have hA : DataW.TrodAll enc Try.prog W 0 (fun _ => true) true Try.f3.params.toList args.toList ds p := hA0
  rw [Try.params3] at hA hval
  obtain ⟨v0, vs0, d0, ds0, p0, q0, hargs, rfl, rfl, h0, r0⟩ := trodAll_cons hA
  obtain ⟨v1, vs1, d1, ds1, p1, q1, rfl, rfl, rfl, h1, r1⟩ := trodAll_cons r0
  obtain ⟨v2, vs2, d2, ds2, p2, q2, rfl, rfl, rfl, h2, r2⟩ := trodAll_cons r1
  obtain ⟨v3, vs3, d3, ds3, p3, q3, rfl, rfl, rfl, h3, r3⟩ := trodAll_cons r2
  obtain ⟨v4, vs4, d4, ds4, p4, q4, rfl, rfl, rfl, h4, r4⟩ := trodAll_cons r3
  obtain ⟨rfl, rfl, rfl⟩ := trodAll_nil r4
  obtain rfl : args = #[v0, v1, v2, v3, v4] := by cases args; simp_all
  obtain ⟨rfl, rfl⟩ := trodVars_none hV
  obtain ⟨a0, len0, cap0, rfl⟩ := okWide_slice Try.underlying22 (hval 0 22 v0 rfl rfl)
  obtain ⟨room, rfl⟩ := okWide_int Try.underlying3 (hval 1 3 v1 rfl rfl)
  obtain ⟨period, rfl⟩ := okWide_int Try.underlying3 (hval 2 3 v2 rfl rfl)
  obtain ⟨a3, len3, cap3, rfl⟩ := okWide_slice Try.underlying22 (hval 3 22 v3 rfl rfl)
  obtain ⟨save, rfl⟩ := okWide_int Try.underlying3 (hval 4 3 v4 rfl rfl)
  have e0 := h0
  have e1 := h1
  have e2 := h2
  have e3 := h3
  have e4 := h4
  have lt0 : ∀ x ∈ p0, x.block < W.heap.size := by obtain ⟨m, hm⟩ := e0; exact DataW.trod_lt m _ _ _ hm
  have lt1 : ∀ x ∈ p1, x.block < W.heap.size := by obtain ⟨m, hm⟩ := e1; exact DataW.trod_lt m _ _ _ hm
  have lt2 : ∀ x ∈ p2, x.block < W.heap.size := by obtain ⟨m, hm⟩ := e2; exact DataW.trod_lt m _ _ _ hm
  have lt3 : ∀ x ∈ p3, x.block < W.heap.size := by obtain ⟨m, hm⟩ := e3; exact DataW.trod_lt m _ _ _ hm
  have lt4 : ∀ x ∈ p4, x.block < W.heap.size := by obtain ⟨m, hm⟩ := e4; exact DataW.trod_lt m _ _ _ hm
  have hts : Try.f3.params.toList ++ DataSpec.varTypes Try.checked.prog Rows.steppedSpec.plain = [22, 3, 3, 22, 3] := by kernel_rfl
  rw [hts] at hsz0
  have hl0 : len0 < 1000000000000000000 := by
    obtain ⟨fuel, hf⟩ := h0
    exact ints_len (x := (d0, p0)) (j := 0) (by simpa [Value.cells] using hf) rfl rfl hsz0
  have hl3 : len3 < 1000000000000000000 := by
    obtain ⟨fuel, hf⟩ := h3
    exact ints_len (x := (d3, p3)) (j := 3) (by simpa [Value.cells] using hf) rfl rfl hsz0
  obtain ⟨V0, I0⟩ : ∃ V, Ints W a0 len0 V := by
    obtain ⟨fuel, hf⟩ := h0
    exact open_ints (by simpa [Value.cells] using hf)
  obtain ⟨V3, I3⟩ : ∃ V, Ints W a3 len3 V := by
    obtain ⟨fuel, hf⟩ := h3
    exact open_ints (by simpa [Value.cells] using hf)
  have ok1 : i64ok room := by
    obtain ⟨fuel, hf⟩ := h1
    obtain ⟨z, hz, _, hw⟩ := DataW.trod_int Try.underlying3 (by simpa [Value.cells] using hf)
    simp at hz
    subst hz
    exact ok_of_wf hw
  have ok2 : i64ok period := by
    obtain ⟨fuel, hf⟩ := h2
    obtain ⟨z, hz, _, hw⟩ := DataW.trod_int Try.underlying3 (by simpa [Value.cells] using hf)
    simp at hz
    subst hz
    exact ok_of_wf hw
  have ok4 : i64ok save := by
    obtain ⟨fuel, hf⟩ := h4
    obtain ⟨z, hz, _, hw⟩ := DataW.trod_int Try.underlying3 (by simpa [Value.cells] using hf)
    simp at hz
    subst hz
    exact ok_of_wf hw
  clear hA0 hval0
  refine (walk a0 len0 cap0 V0 (by omega) room period ok1 ok2 a3 len3 cap3 V3 hl3 save ok4 W I0 I3).mono fun e W' ⟨he, bel⟩ => ?_
  subst he
  exact ⟨_, rfl, _, _, _, [], _, [], hW', trodAll_mk1 (shut_bool Try.underlying4 _), (trodAll_cons_mk (Below.trod laidOut (by kernel_rfl) (of_decide_eq_true (by kernel_rfl)) e0 bel lt0) (trodAll_cons_mk (Below.trod laidOut (by kernel_rfl) (of_decide_eq_true (by kernel_rfl)) e1 bel lt1) (trodAll_cons_mk (Below.trod laidOut (by kernel_rfl) (of_decide_eq_true (by kernel_rfl)) e2 bel lt2) (trodAll_cons_mk (Below.trod laidOut (by kernel_rfl) (of_decide_eq_true (by kernel_rfl)) e3 bel lt3) (trodAll_cons_mk (Below.trod laidOut (by kernel_rfl) (of_decide_eq_true (by kernel_rfl)) e4 bel lt4) trodAll_mk0))))), rfl, bel.frame _, fun h => by cases h⟩

theorem over : Rows.steppedRow.holds Try.pinned (OpenSpec.ofChange Rows.steppedSpec) :=
  OpenClaim.holds_of_wide 3 Try.f3 rfl rfl rfl rfl rfl rfl rfl ⟨rfl, rfl, rfl, rfl, rfl⟩ rfl rfl rfl rfl rfl (by kernel_rfl) Try.func3 (by kernel_rfl)
    (of_decide_eq_true (by kernel_rfl)) (by unfold Func.isWrapper; first | (rw [if_pos (by decide +kernel)]; kernel_rfl) | (rw [if_neg (by decide +kernel)]; exact ⟨rfl, rfl⟩))
    (fun os started H enc _ => lifted os started H enc)
end SteppedP

theorem stepped_holds : Rows.SteppedSaid := SteppedP.over
#print axioms stepped_holds
end Go.Proofs.Ytcmoffiigpchiaa
