import Derived.Test.YtcmoffiigpchiaaKeepS
namespace Go.Proofs.Ytcmoffiigpchiaa
open Go.ChangeShapes Go.WideShapes Go.ChangeAt Go.RowKit
open Go.ChangeMaps (open_string shut_string)
namespace CutP
open Keep

set_option maxRecDepth 100000 in
set_option maxHeartbeats 2000000 in
theorem walk (a1 : Option Addr) (len1 cap1 : Nat) (V1 : Nat → Int) (h1 : (len1 : Int) ≤ 9223372036854775807) (room period : Int) (hr : i64ok room) (hq : i64ok period) (a2 : Option Addr) (len2 cap2 : Nat) (V2 : Nat → Int) (h2 : len2 < 1000000000000000000) (save : Int) (hsave : i64ok save) (at_ : Int) (hat_ : i64ok at_) (w : World) (I1 : Ints w a1 len1 V1) (I2 : Ints w a2 len2 V2) :
    Calls Try.prog 5 #[.slice a1 len1 cap1, .int .i64 room, .int .i64 period, .slice a2 len2 cap2, .int .i64 save, .int .i64 at_] w fun e w' => e = .returned (.bool true) ∧ Below w.heap.size w w' := by
  have HP := hide (program_k a1 len1 cap1 h1 V1 w I1)
  have hp := progB_good V1 (min len1 32) (by omega)
  have k1 := kp_lt room (n := 63) (by decide)
  have k2 := kp_lt period (n := 50) (by decide)
  generalize progB V1 (min len1 32) = p at *
  have hsh := (Mach.good_of hp).short
  have hpz : p.size ≤ maxLen := by unfold maxLen; omega
  have HB1 := hide (begin_k p hp room period hr hq)
  have R1 := hide (runs_new (V := V2) (n := 2 + kp save 60) (room := 2 + (kp room 63 : Int)) (period := 1 + (kp period 50 : Int)) hp (by omega) (by omega) (by omega) (by omega))
  generalize RM.new p (2 + (kp room 63 : Int)) (1 + (kp period 50 : Int)) = mf at *
  have HI2 := hide I2
  clear I1 I2 hr hq
  go_enter Try.func5, Try.ntmps5
  go_wp2_with fail
  refine (unhide HP).mono ?_
  rintro e w1 ⟨rfl, hd⟩
  have L1 := hide (drawn_below hd)
  clear hd
  go_wp2_with fail
  refine (unhide HB1 _).mono ?_
  rintro e w2 ⟨fb, xb, r, cap, rfl, hF, hb⟩
  have F2 := hide hF
  have L2 := hide (bel_then (unhide L1) hb)
  have lf := FilmAt.lt hF
  have s1 := (unhide L1).size
  have s2 := hb.size
  clear hF hb
  have HG1 := hide (goes_k w1.heap.size fb xb r cap p mf a2 len2 cap2 h2 V2 save hsave w2 (Keep.ints_at (unhide HI2) s1 (unhide L2).block) (unhide F2) (unhide R1))
  go_wp2_with fail
  refine (unhide HG1).mono ?_
  rintro e w4 ⟨rfl, m4, r4, c4, l4, v4, hF, hR, hr4, hk4, h40, h41⟩
  have F4 := hide hF
  have L4 := hide (below_list (unhide L2) hk4 (by simp; omega))
  obtain ⟨hl0, hl1⟩ := runs_len hR
  obtain ⟨G, hG⟩ := hR.tale
  have hi4 := hR.inv
  obtain ⟨z1, z2, z3⟩ := Hist.trace_size hi4
  have hroom := hR.room
  have hsz := hG.size
  have HPK := hide (pick_k at_ ((RM.traceOf m4).size + 1) (by omega) hat_ (by omega))
  have hkl := kp_lt at_ (n := (RM.traceOf m4).size + 1) (by omega)
  have HT4 := hide (fun W hW => trace_code xb m4 W hW)
  generalize hkn : kp at_ ((RM.traceOf m4).size + 1) = n at *
  have htz : (RM.traceOf m4).size ≤ 2560 := by omega
  have hexz : ((RM.traceOf m4).extract 0 n).size = n := by rw [size_ex _ (by omega)]; omega
  have hc1 : (((RM.traceOf m4).size + 1 : Nat) : Int) = ((RM.traceOf m4).size : Int) + 1 := by omega
  rw [hc1] at HPK
  by_cases hn40 : n < 40
  · have HSP := hide (span_api ((RM.traceOf m4).extract 0 n) (by omega))
    have HAT := hide (at_api p ((RM.traceOf m4).extract 0 n) hpz (by omega) 0)
    have hrun : Hist.run ((RM.traceOf m4).extract 0 n) = [] := Hist.run_none (.inl (by omega))
    rw [hrun] at HSP HAT
    rw [Hist.atOf_none hp rfl] at HAT
    have hse : Hist.spanErr [] = 6 := by unfold Hist.spanErr; simp
    rw [hse] at HSP
    simp only [StV.val, Mach.zero] at HAT
    have hn1 : (n : Int) < 40 := by omega
    have hn2 : (n : Int) ≤ ((RM.traceOf m4).size : Int) := by omega
    clear hF hR hk4 h40 h41 hse hG hi4 z1 z2 z3 hroom hsz hrun hkn hexz hkl hc1
    generalize Hist.firstN [] = lo at *
    generalize Hist.lastTo [] = hi at *
    generalize RM.traceOf m4 = t4 at *
    obtain ⟨c0, f0, g0⟩ := (unhide F4).box
    clear g0
    go_wp2_with fail
    refine (unhide HT4 _ (unhide F4).code).mono ?_
    rintro e w' ⟨rfl, hw⟩
    obtain rfl := hw.symm
    go_wp2_with fail
    refine (unhide HPK _).mono ?_
    rintro e w' ⟨rfl, hw⟩
    obtain rfl := hw.symm
    go_wp2_with fail
    refine (unhide HSP _).mono ?_
    rintro e w5 ⟨rfl, hb⟩
    have F5 := hide ((unhide F4).next hb)
    have L5 := hide (bel_then (unhide L4) hb)
    clear hb c0 f0
    obtain ⟨c0, f0, g0⟩ := (unhide F5).box
    have hfl := (unhide F5).box.lt
    have nb1 : ¬ fb = w5.heap.size := by omega
    have nb2 : ¬ w5.heap.size = fb := by omega
    clear g0
    go_upto_region 11 with fail
    go_cut [20, 21] (fun x y wx => y = .int .i64 6 ∧ Below w.heap.size w wx)
    case first =>
      go_region_held3 (fun w' => w'.cell? ⟨fb, 0, none⟩ = some (.string p)) (first | go_keep | (go_simp; done)) (first | (go_at_call 18; refine (unhide HAT _).mono ?_; rintro e w6 ⟨rfl, hb⟩; (first | (have L6 : Hid (Below w5.heap.size w5 w6) := bel_undrew hb; have T6 := hide True.intro) | (have L6 : Hid (Below w5.heap.size w5 w6) := bel_alloc (bel_undrew hb); have T6 := hide ((Box.new w5 _ _).drew.next hb); obtain ⟨ct, ft, gt⟩ := unhide T6)); clear hb; have F6 := hide ((unhide F5).next (unhide L6)); obtain ⟨c5, f5, g5⟩ := (unhide F6).box))
      all_goals
        go_wp2_with fail
        go_meet
        case rel =>
          have hB6 := bel_then (unhide L5) (unhide L6)
          have hs5 := (unhide L5).size
          refine ⟨rfl, ?_⟩
          first | (have hT : Box _ _ _ := unhide T6; exact bel_put9 hB6 (by omega) _ _ _ _ _ _ _ _ _) | exact hB6.alloc hB6.size _
    case rest =>
      obtain ⟨rfl, hB⟩ := hcut
      have B7 := hide hB
      clear hB
      go_wp2_with fail
      go_ret
      exact ⟨by simp, unhide B7⟩
  · have hS := Hist.trace_whole hp hi4 hG
    have hM := Hist.trace_cut hp hi4 hG (n := n) (by omega) (by omega)
    have hM2 := Hist.trace_cut hp hi4 hG (n := n / 40 * 40) (by omega) (by omega)
    rw [show n / 40 * 40 / 40 = n / 40 by omega] at hM2
    have hexz2 : ((RM.traceOf m4).extract 0 (n / 40 * 40)).size = n / 40 * 40 := by rw [size_ex _ (by omega)]; omega
    have HS1 := hide (span_api (RM.traceOf m4) (by omega))
    have HS2 := hide (span_api ((RM.traceOf m4).extract 0 n) (by omega))
    have HS3 := hide (span_api ((RM.traceOf m4).extract 0 (n / 40 * 40)) (by omega))
    have HSh := hide (fun W hW => shows_k w1.heap.size fb xb r4 c4 p m4 l4 v4 hl1 hpz ((RM.traceOf m4).extract 0 n) (by omega) _ hM W hW)
    have hP := (Hist.kept_part hi4 hG (m4.all.length - m4.from_) (by omega) (Nat.le_refl _)).1.run hG.run
    have htk : (G.drop m4.from_).take (m4.all.length - m4.from_) = G.drop m4.from_ := List.take_of_length_le (by rw [List.length_drop]; have := hG.len; omega)
    rw [htk] at hP
    have hto := Hist.lastTo_take hP (j := n / 40) (by omega)
    have hfi := Hist.firstN_take (G.drop m4.from_) (j := n / 40) (by omega)
    have heq : n = (RM.traceOf m4).size → Hist.lastTo ((G.drop m4.from_).take (n / 40)) = Hist.lastTo (G.drop m4.from_) := fun h => by
      rw [show n / 40 = m4.all.length - m4.from_ by omega, htk]
    have hse1 : Hist.spanErr (G.drop m4.from_) = 0 := by unfold Hist.spanErr; simp only [hS.ne, if_false]
    have hse2 : Hist.spanErr ((G.drop m4.from_).take (n / 40)) = 0 := by unfold Hist.spanErr; simp only [hM.ne, if_false]
    rw [hS.run, hse1] at HS1
    rw [hM.run, hse2, hfi] at HS2
    rw [hM2.run, hse2, hfi] at HS3
    have hn1 : ¬ (n : Int) < 40 := by omega
    have hn2 : (n : Int) ≤ ((RM.traceOf m4).size : Int) := by omega
    have hn3 : n ≤ (RM.traceOf m4).size := by omega
    clear hF hR hk4 h40 h41 hse1 hse2 hG hi4 z1 z2 z3 hroom hsz hkn hexz hexz2 hkl hc1 hS hM hM2 hP htk hfi
    generalize Hist.firstN (G.drop m4.from_) = lo at *
    generalize Hist.lastTo ((G.drop m4.from_).take (n / 40)) = tt at *
    generalize Hist.lastTo (G.drop m4.from_) = hi at *
    generalize RM.traceOf m4 = t4 at *
    obtain ⟨c0, f0, g0⟩ := (unhide F4).box
    clear g0
    go_wp2_with fail
    refine (unhide HT4 _ (unhide F4).code).mono ?_
    rintro e w' ⟨rfl, hw⟩
    obtain rfl := hw.symm
    go_wp2_with fail
    refine (unhide HPK _).mono ?_
    rintro e w' ⟨rfl, hw⟩
    obtain rfl := hw.symm
    go_wp2_with fail
    refine (unhide HS1 _).mono ?_
    rintro e w5 ⟨rfl, hb⟩
    have F5 := hide ((unhide F4).next hb)
    have L5 := hide (bel_then (unhide L4) hb)
    clear hb c0 f0
    go_wp2_with fail
    refine (unhide HS2 _).mono ?_
    rintro e w6 ⟨rfl, hb⟩
    have F6 := hide ((unhide F5).next hb)
    have L6 := hide (bel_then (unhide L5) hb)
    clear hb
    go_wp2_with fail
    refine (unhide HSh _ (unhide F6)).mono ?_
    rintro e w7 ⟨rfl, hb⟩
    have L7 := hide (bel_then (unhide L6) hb)
    clear hb
    by_cases hnt : n = t4.size
    · have hte := heq hnt
      have HNT : ((n : Int) == (t4.size : Int)) = true := by simp [hnt]
      subst hte
      clear heq hnt
      go_wp2_with fail
      go_ret
      exact ⟨by simp, unhide L7⟩
    · have HNT : ((n : Int) == (t4.size : Int)) = false := by
        have : ¬ (n : Int) = (t4.size : Int) := by omega
        simp [this]
      have hd1 : (n : Int).tdiv 40 = ((n / 40 : Nat) : Int) := by rw [Int.tdiv_eq_ediv_of_nonneg (by omega)]; omega
      have hd2 : wrap64 (((n / 40 : Nat) : Int) * 40) = ((n / 40 * 40 : Nat) : Int) := by unfold wrap64; omega
      have hd3 : ((n / 40 * 40 : Nat) : Int) ≤ (t4.size : Int) := by omega
      go_wp2_with fail
      refine (unhide HS3 _).mono ?_
      rintro e w8 ⟨rfl, hb⟩
      have L8 := hide (bel_then (unhide L7) hb)
      clear hb
      go_wp2_with fail
      go_ret
      exact ⟨by simp, unhide L8⟩

set_option maxRecDepth 100000 in
theorem lifted (os : Os) (started : os.Started) (H : Type) (enc : TypeId × Value → H) :
    ReturnsInHanded {} Try.checked os 5 .any (Rows.cutSpec.pre6 enc Try.prog Try.f5 Rows.cutRow.domain false) (Rows.cutSpec.post enc Try.prog Try.f5 false true false false) := by
  refine returnsInHanded_of_change_sized (C := Try.checked) own started (by kernel_rfl) Try.func5
    (ChangeSpec.witness6 (enc := enc) (C := Try.checked) false ⟨#[], #[.slice none 0 0, .int .i64 0, .int .i64 0, .slice none 0 0, .int .i64 0, .int .i64 0], []⟩ 8 (by kernel_rfl) (by kernel_rfl) (by kernel_rfl) (by kernel_rfl)) ?_
  intro W base args ds gs before hval0 hW hcnd hsz0 _
  have hval : ∀ (j : Nat) t v, Try.f5.params[j]? = some t → args[j]? = some v → Value.okWide Try.prog W .any base t v := hval0
  have hW' := hW
  obtain ⟨p, q, hA0, hV, rfl, hfz, hnd⟩ := hW
  have hA : DataW.TrodAll enc Try.prog W 0 (fun _ => true) true Try.f5.params.toList args.toList ds p := hA0
  rw [Try.params5] at hA hval
  obtain ⟨v0, vs0, d0, ds0, p0, q0, hargs, rfl, rfl, h0, r0⟩ := trodAll_cons hA
  obtain ⟨v1, vs1, d1, ds1, p1, q1, rfl, rfl, rfl, h1, r1⟩ := trodAll_cons r0
  obtain ⟨v2, vs2, d2, ds2, p2, q2, rfl, rfl, rfl, h2, r2⟩ := trodAll_cons r1
  obtain ⟨v3, vs3, d3, ds3, p3, q3, rfl, rfl, rfl, h3, r3⟩ := trodAll_cons r2
  obtain ⟨v4, vs4, d4, ds4, p4, q4, rfl, rfl, rfl, h4, r4⟩ := trodAll_cons r3
  obtain ⟨v5, vs5, d5, ds5, p5, q5, rfl, rfl, rfl, h5, r5⟩ := trodAll_cons r4
  obtain ⟨rfl, rfl, rfl⟩ := trodAll_nil r5
  obtain rfl : args = #[v0, v1, v2, v3, v4, v5] := by cases args; simp_all
  obtain ⟨rfl, rfl⟩ := trodVars_none hV
  obtain ⟨a0, len0, cap0, rfl⟩ := okWide_slice Try.underlying22 (hval 0 22 v0 rfl rfl)
  obtain ⟨room, rfl⟩ := okWide_int Try.underlying3 (hval 1 3 v1 rfl rfl)
  obtain ⟨period, rfl⟩ := okWide_int Try.underlying3 (hval 2 3 v2 rfl rfl)
  obtain ⟨a3, len3, cap3, rfl⟩ := okWide_slice Try.underlying22 (hval 3 22 v3 rfl rfl)
  obtain ⟨save, rfl⟩ := okWide_int Try.underlying3 (hval 4 3 v4 rfl rfl)
  obtain ⟨at_, rfl⟩ := okWide_int Try.underlying3 (hval 5 3 v5 rfl rfl)
  have e0 := h0
  have e1 := h1
  have e2 := h2
  have e3 := h3
  have e4 := h4
  have e5 := h5
  have lt0 : ∀ x ∈ p0, x.block < W.heap.size := by obtain ⟨m, hm⟩ := e0; exact DataW.trod_lt m _ _ _ hm
  have lt1 : ∀ x ∈ p1, x.block < W.heap.size := by obtain ⟨m, hm⟩ := e1; exact DataW.trod_lt m _ _ _ hm
  have lt2 : ∀ x ∈ p2, x.block < W.heap.size := by obtain ⟨m, hm⟩ := e2; exact DataW.trod_lt m _ _ _ hm
  have lt3 : ∀ x ∈ p3, x.block < W.heap.size := by obtain ⟨m, hm⟩ := e3; exact DataW.trod_lt m _ _ _ hm
  have lt4 : ∀ x ∈ p4, x.block < W.heap.size := by obtain ⟨m, hm⟩ := e4; exact DataW.trod_lt m _ _ _ hm
  have lt5 : ∀ x ∈ p5, x.block < W.heap.size := by obtain ⟨m, hm⟩ := e5; exact DataW.trod_lt m _ _ _ hm
  have hts : Try.f5.params.toList ++ DataSpec.varTypes Try.checked.prog Rows.cutSpec.plain = [22, 3, 3, 22, 3, 3] := by kernel_rfl
  rw [hts] at hsz0
  have hl0 : len0 < 1000000000000000000 := by
    obtain ⟨fuel, hf⟩ := h0
    exact ints_len (x := (d0, p0)) (j := 0) (by simpa [Value.cells] using hf) rfl rfl hsz0
  have hl3 : len3 < 1000000000000000000 := by
    obtain ⟨fuel, hf⟩ := h3
    exact ints_len (x := (d3, p3)) (j := 3) (by simpa [Value.cells] using hf) rfl rfl hsz0
  obtain ⟨V0, I0⟩ : ∃ V, Ints W a0 len0 V := by
    obtain ⟨fuel, hf⟩ := h0
    exact open_ints (by simpa [Value.cells] using hf)
  have ok1 : i64ok room := by
    obtain ⟨fuel, hf⟩ := h1
    obtain ⟨z, hz, _, hw⟩ := DataW.trod_int Try.underlying3 (by simpa [Value.cells] using hf)
    simp at hz
    subst hz
    exact ok_of_wf hw
  have ok2 : i64ok period := by
    obtain ⟨fuel, hf⟩ := h2
    obtain ⟨z, hz, _, hw⟩ := DataW.trod_int Try.underlying3 (by simpa [Value.cells] using hf)
    simp at hz
    subst hz
    exact ok_of_wf hw
  obtain ⟨V3, I3⟩ : ∃ V, Ints W a3 len3 V := by
    obtain ⟨fuel, hf⟩ := h3
    exact open_ints (by simpa [Value.cells] using hf)
  have ok4 : i64ok save := by
    obtain ⟨fuel, hf⟩ := h4
    obtain ⟨z, hz, _, hw⟩ := DataW.trod_int Try.underlying3 (by simpa [Value.cells] using hf)
    simp at hz
    subst hz
    exact ok_of_wf hw
  have ok5 : i64ok at_ := by
    obtain ⟨fuel, hf⟩ := h5
    obtain ⟨z, hz, _, hw⟩ := DataW.trod_int Try.underlying3 (by simpa [Value.cells] using hf)
    simp at hz
    subst hz
    exact ok_of_wf hw
  clear hA0 hval0
  refine (walk a0 len0 cap0 V0 (by omega) room period ok1 ok2 a3 len3 cap3 V3 hl3 save ok4 at_ ok5 W I0 I3).mono fun e W' ⟨he, bel⟩ => ?_
  subst he
  exact ⟨_, rfl, _, _, _, [], _, [], hW', trodAll_mk1 (shut_bool Try.underlying4 _), (trodAll_cons_mk (Below.trod laidOut (by kernel_rfl) (of_decide_eq_true (by kernel_rfl)) e0 bel lt0) (trodAll_cons_mk (Below.trod laidOut (by kernel_rfl) (of_decide_eq_true (by kernel_rfl)) e1 bel lt1) (trodAll_cons_mk (Below.trod laidOut (by kernel_rfl) (of_decide_eq_true (by kernel_rfl)) e2 bel lt2) (trodAll_cons_mk (Below.trod laidOut (by kernel_rfl) (of_decide_eq_true (by kernel_rfl)) e3 bel lt3) (trodAll_cons_mk (Below.trod laidOut (by kernel_rfl) (of_decide_eq_true (by kernel_rfl)) e4 bel lt4) (trodAll_cons_mk (Below.trod laidOut (by kernel_rfl) (of_decide_eq_true (by kernel_rfl)) e5 bel lt5) trodAll_mk0)))))), rfl, bel.frame _, fun h => by cases h⟩

theorem over : Rows.cutRow.holds Try.pinned (OpenSpec.ofChange Rows.cutSpec) :=
  OpenClaim.holds_of_wide 5 Try.f5 rfl rfl rfl rfl rfl rfl rfl ⟨rfl, rfl, rfl, rfl, rfl⟩ rfl rfl rfl rfl rfl (by kernel_rfl) Try.func5 (by kernel_rfl)
    (of_decide_eq_true (by kernel_rfl)) (by unfold Func.isWrapper; first | (rw [if_pos (by decide +kernel)]; kernel_rfl) | (rw [if_neg (by decide +kernel)]; exact ⟨rfl, rfl⟩))
    (fun os started H enc _ => lifted os started H enc)
end CutP

theorem cut_holds : Rows.CutSaid := CutP.over
#print axioms cut_holds
end Go.Proofs.Ytcmoffiigpchiaa
