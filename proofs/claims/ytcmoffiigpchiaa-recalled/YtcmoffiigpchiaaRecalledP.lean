import Derived.Test.YtcmoffiigpchiaaKeepS
import Derived.Test.YtcmoffiigpchiaaKeepT
namespace Go.Proofs.Ytcmoffiigpchiaa
open Go.ChangeShapes Go.WideShapes Go.ChangeAt Go.RowKit
open Go.ChangeMaps (open_string shut_string)
namespace RecalledP
open Keep

set_option maxRecDepth 100000 in
set_option maxHeartbeats 2000000 in
theorem walk (a1 : Option Addr) (len1 cap1 : Nat) (V1 : Nat → Int) (h1 : (len1 : Int) ≤ 9223372036854775807) (room period : Int) (hr : i64ok room) (hq : i64ok period) (a2 : Option Addr) (len2 cap2 : Nat) (V2 : Nat → Int) (h2 : len2 < 1000000000000000000) (save : Int) (hs : i64ok save) (w : World) (I1 : Ints w a1 len1 V1) (I2 : Ints w a2 len2 V2) :
    Calls Try.prog 4 #[.slice a1 len1 cap1, .int .i64 room, .int .i64 period, .slice a2 len2 cap2, .int .i64 save] w fun e w' => e = .returned (.bool true) ∧ Below w.heap.size w w' := by
  have HP := hide (program_k a1 len1 cap1 h1 V1 w I1)
  have hp := progB_good V1 (min len1 32) (by omega)
  have k1 := kp_lt room (n := 63) (by decide)
  have k2 := kp_lt period (n := 50) (by decide)
  generalize progB V1 (min len1 32) = p at *
  have hsh := (Mach.good_of hp).short
  have hpz : p.size ≤ maxLen := by unfold maxLen; omega
  have HB1 := hide (begin_k p hp room period hr hq)
  have R1 := hide (runs_new (V := V2) (n := 2 + kp save 60) (room := 2 + (kp room 63 : Int)) (period := 1 + (kp period 50 : Int)) hp (by omega) (by omega) (by omega) (by omega))
  have HPR := hide (pick_63 room hr)
  generalize RM.new p (2 + (kp room 63 : Int)) (1 + (kp period 50 : Int)) = mf at *
  have HI2 := hide I2
  have HQ := hide (And.intro hr hq)
  clear I1 I2 hr hq
  go_enter Try.func4, Try.ntmps4
  go_wp2_with fail
  refine (unhide HP).mono ?_
  rintro e w1 ⟨rfl, hd⟩
  have L1 := hide (drawn_below hd)
  clear hd
  go_wp2_with fail
  refine (unhide HB1 _).mono ?_
  rintro e w2 ⟨fb, xb, r, cap, rfl, hF, hb⟩
  have F2 := hide hF
  have L2 := hide (bel_then (unhide L1) hb)
  have lf := FilmAt.lt hF
  have s1 := (unhide L1).size
  have s2 := hb.size
  clear hF hb
  have HG1 := hide (goes_k w1.heap.size fb xb r cap p mf a2 len2 cap2 h2 V2 save hs w2 (Keep.ints_at (unhide HI2) s1 (unhide L2).block) (unhide F2) (unhide R1))
  go_wp2_with fail
  refine (unhide HG1).mono ?_
  rintro e w4 ⟨rfl, m4, r4, c4, l4, v4, hF, hR, hr4, hk4, h40, h41⟩
  have F4 := hide hF
  have L4 := hide (below_list (unhide L2) hk4 (by simp; omega))
  obtain ⟨hl0, hl1⟩ := runs_len hR
  obtain ⟨G, hG⟩ := hR.tale
  have hi4 := hR.inv
  obtain ⟨z1, z2, z3⟩ := Hist.trace_size hi4
  have hroom := hR.room
  have hper := hR.period
  have hsz := hG.size
  have hi5 : (RM.save m4).Inv := RM.save_inv hi4 (by have := hR.len; omega)
  have hG5 := Hist.tale_save hG
  obtain ⟨y1, y2, y3⟩ := Hist.trace_size hi5
  have hroom5 : (RM.save m4).room = 2 + (kp room 63 : Int) := (RM.place_room' m4).trans hroom
  have hpm5 : (RM.save m4).p = p := (RM.save_p m4).1.trans hR.pm
  have HS4 := hide (fun W hW => shows_k w1.heap.size fb xb r4 c4 p m4 l4 v4 hl1 hpz (RM.traceOf m4) (by omega) _ (Hist.trace_whole hp hi4 hG) W hW)
  have HS5 := hide (fun W hW => shows_k w1.heap.size fb xb r4 c4 p (RM.save m4) l4 v4 hl1 hpz (RM.traceOf (RM.save m4)) (by omega) _ (Hist.trace_whole hp hi5 hG5) W hW)
  have HT4 := hide (fun W hW => trace_code xb m4 W hW)
  have HT5 := hide (fun W hW => trace_code xb (RM.save m4) W hW)
  have HSV := hide (fun W hW => save_code xb m4 hi4.ok (fun _ => hi4.head) W hW)
  have HFI := hide (fun W hW => fits_k w1.heap.size fb xb r4 c4 p (RM.save m4) l4 v4 hl0 hl1 h40 (by omega) room period (unhide HQ).1 (unhide HQ).2 W hW)
  have HSP := hide (span_api (RM.traceOf (RM.save m4)) (by omega))
  have hsh5 := Hist.trace_whole hp hi5 hG5
  rw [hsh5.run] at HSP
  have hse : Hist.spanErr (List.drop (RM.save m4).from_ (G ++ [Hist.stE m4.all.length m4.s])) = 0 := by unfold Hist.spanErr; simp [hsh5.ne]
  have hla := Hist.saved_last hi4 hG
  have hff := Hist.fit_first hi4 hG hR.fit
  rw [hroom, hper, show m4.s.n = ((l4.length - 1 : Nat) : Int) by omega] at hff
  rw [show m4.s.n = ((l4.length - 1 : Nat) : Int) by omega] at hla
  rw [hla] at HSP HS5
  rw [hse] at HSP
  have HFF := hide hff
  have HI5 := hide (And.intro hi5 hpm5)
  have q1 : ((RM.traceOf m4).size : Int) % 40 = 0 := by omega
  have q2 : ((RM.traceOf m4).size : Int) ≤ 40 * (2 + (kp room 63 : Int)) := by omega
  clear hF hR hk4 h40 h41 hse hla hff hsh5 hG hG5 hi4 hi5 z1 z2 z3 y1 y2 y3 hroom hper hsz hroom5 hpm5
  generalize Hist.firstN (List.drop (RM.save m4).from_ (G ++ [Hist.stE m4.all.length m4.s])) = lo5 at *
  generalize Hist.lastTo (List.drop m4.from_ G) = hi4 at *
  generalize RM.save m4 = m5 at *
  generalize RM.traceOf m4 = t4 at *
  generalize RM.traceOf m5 = t5 at *
  have hlw : wrap64 ((l4.length : Int) - 1) = ((l4.length - 1 : Nat) : Int) := by unfold wrap64; omega
  generalize l4.length - 1 = ld at *
  have hldd : ((l4.length : Int) - 1) = (ld : Int) := by
    have := hlw
    unfold wrap64 at this
    omega
  have HLD := hide hldd
  clear hldd
  obtain ⟨c0, f0, g0⟩ := (unhide F4).box
  clear g0
  go_wp2_with fail
  refine (unhide HT4 _ (unhide F4).code).mono ?_
  rintro e w' ⟨rfl, hw⟩
  obtain rfl := hw.symm
  go_wp2_with fail
  refine (unhide HS4 _ (unhide F4)).mono ?_
  rintro e w5 ⟨rfl, hb⟩
  have F5 := hide ((unhide F4).next hb)
  have L5 := hide (bel_then (unhide L4) hb)
  clear hb c0 f0
  obtain ⟨c0, f0, g0⟩ := (unhide F5).box
  clear g0
  go_wp2_with fail
  refine (unhide HPR _).mono ?_
  rintro e w' ⟨rfl, hw⟩
  obtain rfl := hw.symm
  go_wp2_with fail
  refine (unhide HSV _ (unhide F5).code).mono ?_
  rintro e w6 ⟨rfl, hx6, hk6⟩
  have F6 := hide ((unhide F5).gone hx6 hk6 (unhide HI5).1 (unhide HI5).2)
  have L6 := hide (below_list (unhide L5) hk6 (by simp; omega))
  clear hx6 hk6 c0 f0
  obtain ⟨c0, f0, g0⟩ := (unhide F6).box
  clear g0
  go_wp2_with fail
  refine (unhide HT5 _ (unhide F6).code).mono ?_
  rintro e w' ⟨rfl, hw⟩
  obtain rfl := hw.symm
  go_wp2_with fail
  refine (unhide HS5 _ (unhide F6)).mono ?_
  rintro e w7 ⟨rfl, hb⟩
  have F7 := hide ((unhide F6).next hb)
  have L7 := hide (bel_then (unhide L6) hb)
  clear hb c0 f0
  go_wp2_with fail
  refine (unhide HFI _ (unhide F7)).mono ?_
  rintro e w8 ⟨rfl, hb⟩
  have F8 := hide ((unhide F7).next hb)
  have L8 := hide (bel_then (unhide L7) hb)
  clear hb
  go_wp2_with fail
  refine (unhide HSP _).mono ?_
  rintro e w9 ⟨rfl, hb⟩
  have F9 := hide ((unhide F8).next hb)
  have L9 := hide (bel_then (unhide L8) hb)
  clear hb
  obtain ⟨c0, f0, g0⟩ := (unhide F9).box
  clear g0
  by_cases hfit : 2 + v4 + (ld : Int) + (ld : Int) / (1 + (kp period 50 : Int)) ≤ 2 + (kp room 63 : Int)
  · have hz := unhide HFF hfit
    subst hz
    have hdt := decide_eq_true hfit
    generalize decide (2 + v4 + (ld : Int) + (ld : Int) / (1 + (kp period 50 : Int)) ≤ 2 + (kp room 63 : Int)) = df at *
    subst hdt
    clear hfit
    go_wp2_with fail
    go_ret
    exact ⟨by have := unhide HLD; simp; omega, unhide L9⟩
  · have hdt := decide_eq_false hfit
    generalize decide (2 + v4 + (ld : Int) + (ld : Int) / (1 + (kp period 50 : Int)) ≤ 2 + (kp room 63 : Int)) = df at *
    subst hdt
    clear hfit
    go_wp2_with fail
    go_ret
    exact ⟨by have := unhide HLD; simp; omega, unhide L9⟩

set_option maxRecDepth 100000 in
theorem lifted (os : Os) (started : os.Started) (H : Type) (enc : TypeId × Value → H) :
    ReturnsInHanded {} Try.checked os 4 .any (Rows.recalledSpec.pre6 enc Try.prog Try.f4 Rows.recalledRow.domain false) (Rows.recalledSpec.post enc Try.prog Try.f4 false true false false) := by
  refine returnsInHanded_of_change_sized (C := Try.checked) own started (by kernel_rfl) Try.func4
    (ChangeSpec.witness6 (enc := enc) (C := Try.checked) false ⟨#[], #[.slice none 0 0, .int .i64 0, .int .i64 0, .slice none 0 0, .int .i64 0], []⟩ 8 (by kernel_rfl) (by kernel_rfl) (by kernel_rfl) (by kernel_rfl)) ?_
  intro W base args ds gs before hval0 hW hcnd hsz0 _
  have hval : ∀ (j : Nat) t v, Try.f4.params[j]? = some t → args[j]? = some v → Value.okWide Try.prog W .any base t v := hval0
  have hW' := hW
  obtain ⟨p, q, hA0, hV, rfl, hfz, hnd⟩ := hW
  have hA : DataW.TrodAll enc Try.prog W 0 (fun _ => true) true Try.f4.params.toList args.toList ds p := hA0
  rw [Try.params4] at hA hval
  obtain ⟨v0, vs0, d0, ds0, p0, q0, hargs, rfl, rfl, h0, r0⟩ := trodAll_cons hA
  obtain ⟨v1, vs1, d1, ds1, p1, q1, rfl, rfl, rfl, h1, r1⟩ := trodAll_cons r0
  obtain ⟨v2, vs2, d2, ds2, p2, q2, rfl, rfl, rfl, h2, r2⟩ := trodAll_cons r1
  obtain ⟨v3, vs3, d3, ds3, p3, q3, rfl, rfl, rfl, h3, r3⟩ := trodAll_cons r2
  obtain ⟨v4, vs4, d4, ds4, p4, q4, rfl, rfl, rfl, h4, r4⟩ := trodAll_cons r3
  obtain ⟨rfl, rfl, rfl⟩ := trodAll_nil r4
  obtain rfl : args = #[v0, v1, v2, v3, v4] := by cases args; simp_all
  obtain ⟨rfl, rfl⟩ := trodVars_none hV
  obtain ⟨a0, len0, cap0, rfl⟩ := okWide_slice Try.underlying22 (hval 0 22 v0 rfl rfl)
  obtain ⟨room, rfl⟩ := okWide_int Try.underlying3 (hval 1 3 v1 rfl rfl)
  obtain ⟨period, rfl⟩ := okWide_int Try.underlying3 (hval 2 3 v2 rfl rfl)
  obtain ⟨a3, len3, cap3, rfl⟩ := okWide_slice Try.underlying22 (hval 3 22 v3 rfl rfl)
  obtain ⟨save, rfl⟩ := okWide_int Try.underlying3 (hval 4 3 v4 rfl rfl)
  have e0 := h0
  have e1 := h1
  have e2 := h2
  have e3 := h3
  have e4 := h4
  have lt0 : ∀ x ∈ p0, x.block < W.heap.size := by obtain ⟨m, hm⟩ := e0; exact DataW.trod_lt m _ _ _ hm
  have lt1 : ∀ x ∈ p1, x.block < W.heap.size := by obtain ⟨m, hm⟩ := e1; exact DataW.trod_lt m _ _ _ hm
  have lt2 : ∀ x ∈ p2, x.block < W.heap.size := by obtain ⟨m, hm⟩ := e2; exact DataW.trod_lt m _ _ _ hm
  have lt3 : ∀ x ∈ p3, x.block < W.heap.size := by obtain ⟨m, hm⟩ := e3; exact DataW.trod_lt m _ _ _ hm
  have lt4 : ∀ x ∈ p4, x.block < W.heap.size := by obtain ⟨m, hm⟩ := e4; exact DataW.trod_lt m _ _ _ hm
  have hts : Try.f4.params.toList ++ DataSpec.varTypes Try.checked.prog Rows.recalledSpec.plain = [22, 3, 3, 22, 3] := by kernel_rfl
  rw [hts] at hsz0
  have hl0 : len0 < 1000000000000000000 := by
    obtain ⟨fuel, hf⟩ := h0
    exact ints_len (x := (d0, p0)) (j := 0) (by simpa [Value.cells] using hf) rfl rfl hsz0
  have hl3 : len3 < 1000000000000000000 := by
    obtain ⟨fuel, hf⟩ := h3
    exact ints_len (x := (d3, p3)) (j := 3) (by simpa [Value.cells] using hf) rfl rfl hsz0
  obtain ⟨V0, I0⟩ : ∃ V, Ints W a0 len0 V := by
    obtain ⟨fuel, hf⟩ := h0
    exact open_ints (by simpa [Value.cells] using hf)
  obtain ⟨V3, I3⟩ : ∃ V, Ints W a3 len3 V := by
    obtain ⟨fuel, hf⟩ := h3
    exact open_ints (by simpa [Value.cells] using hf)
  have ok1 : i64ok room := by
    obtain ⟨fuel, hf⟩ := h1
    obtain ⟨z, hz, _, hw⟩ := DataW.trod_int Try.underlying3 (by simpa [Value.cells] using hf)
    simp at hz
    subst hz
    exact ok_of_wf hw
  have ok2 : i64ok period := by
    obtain ⟨fuel, hf⟩ := h2
    obtain ⟨z, hz, _, hw⟩ := DataW.trod_int Try.underlying3 (by simpa [Value.cells] using hf)
    simp at hz
    subst hz
    exact ok_of_wf hw
  have ok4 : i64ok save := by
    obtain ⟨fuel, hf⟩ := h4
    obtain ⟨z, hz, _, hw⟩ := DataW.trod_int Try.underlying3 (by simpa [Value.cells] using hf)
    simp at hz
    subst hz
    exact ok_of_wf hw
  clear hA0 hval0
  refine (walk a0 len0 cap0 V0 (by omega) room period ok1 ok2 a3 len3 cap3 V3 hl3 save ok4 W I0 I3).mono fun e W' ⟨he, bel⟩ => ?_
  subst he
  exact ⟨_, rfl, _, _, _, [], _, [], hW', trodAll_mk1 (shut_bool Try.underlying4 _), (trodAll_cons_mk (Below.trod laidOut (by kernel_rfl) (of_decide_eq_true (by kernel_rfl)) e0 bel lt0) (trodAll_cons_mk (Below.trod laidOut (by kernel_rfl) (of_decide_eq_true (by kernel_rfl)) e1 bel lt1) (trodAll_cons_mk (Below.trod laidOut (by kernel_rfl) (of_decide_eq_true (by kernel_rfl)) e2 bel lt2) (trodAll_cons_mk (Below.trod laidOut (by kernel_rfl) (of_decide_eq_true (by kernel_rfl)) e3 bel lt3) (trodAll_cons_mk (Below.trod laidOut (by kernel_rfl) (of_decide_eq_true (by kernel_rfl)) e4 bel lt4) trodAll_mk0))))), rfl, bel.frame _, fun h => by cases h⟩

theorem over : Rows.recalledRow.holds Try.pinned (OpenSpec.ofChange Rows.recalledSpec) :=
  OpenClaim.holds_of_wide 4 Try.f4 rfl rfl rfl rfl rfl rfl rfl ⟨rfl, rfl, rfl, rfl, rfl⟩ rfl rfl rfl rfl rfl (by kernel_rfl) Try.func4 (by kernel_rfl)
    (of_decide_eq_true (by kernel_rfl)) (by unfold Func.isWrapper; first | (rw [if_pos (by decide +kernel)]; kernel_rfl) | (rw [if_neg (by decide +kernel)]; exact ⟨rfl, rfl⟩))
    (fun os started H enc _ => lifted os started H enc)
end RecalledP

theorem recalled_holds : Rows.RecalledSaid := RecalledP.over
#print axioms recalled_holds
end Go.Proofs.Ytcmoffiigpchiaa
