import Derived.Test.YtcmoffiigpchiaaKeepS
import Derived.Test.YtcmoffiigpchiaaChA
import Derived.Test.YtcmoffiigpchiaaWatch
import Derived.BigQuiet
namespace Go.Proofs.Ytcmoffiigpchiaa
open Go.ChangeShapes Go.WideShapes Go.ChangeAt Go.RowKit
open Go.ChangeMaps (open_string shut_string)
namespace WatchedP
open Keep

set_option maxRecDepth 100000 in
set_option maxHeartbeats 2000000 in
theorem walk (a1 : Option Addr) (len1 cap1 : Nat) (V1 : Nat → Int) (h1 : (len1 : Int) ≤ 9223372036854775807) (room period : Int) (hr : i64ok room) (hq : i64ok period) (a2 : Option Addr) (len2 cap2 : Nat) (V2 : Nat → Int) (h2 : len2 < 1000000000000000000) (at_ : Int) (hat_ : i64ok at_) (cell : Int) (hcell : i64ok cell) (w : World) (I1 : Ints w a1 len1 V1) (I2 : Ints w a2 len2 V2) :
    Calls Try.prog 7 #[.slice a1 len1 cap1, .int .i64 room, .int .i64 period, .slice a2 len2 cap2, .int .i64 at_, .int .i64 cell] w fun e w' => e = .returned (.bool true) ∧ Below w.heap.size w w' := by
  have HP := hide (program_k a1 len1 cap1 h1 V1 w I1)
  have hp := progB_good V1 (min len1 32) (by omega)
  have k1 := kp_lt room (n := 63) (by decide)
  have k2 := kp_lt period (n := 50) (by decide)
  generalize progB V1 (min len1 32) = p at *
  have hsh := (Mach.good_of hp).short
  have hpz : p.size ≤ maxLen := by unfold maxLen; omega
  have HB1 := hide (begin_k p hp room period hr hq)
  have R1 := hide (runs_new (V := V2) (n := 2 + kp 0 60) (room := 2 + (kp room 63 : Int)) (period := 1 + (kp period 50 : Int)) hp (by omega) (by omega) (by omega) (by omega))
  generalize RM.new p (2 + (kp room 63 : Int)) (1 + (kp period 50 : Int)) = mf at *
  have HI2 := hide I2
  clear I1 I2 hr hq
  go_enter Try.func7, Try.ntmps7
  go_wp2_with fail
  refine (unhide HP).mono ?_
  rintro e w1 ⟨rfl, hd⟩
  have L1 := hide (drawn_below hd)
  clear hd
  go_wp2_with fail
  refine (unhide HB1 _).mono ?_
  rintro e w2 ⟨fb, xb, r, cap, rfl, hF, hb⟩
  have F2 := hide hF
  have L2 := hide (bel_then (unhide L1) hb)
  have lf := FilmAt.lt hF
  have s1 := (unhide L1).size
  have s2 := hb.size
  clear hF hb
  have HG1 := hide (goes_k w1.heap.size fb xb r cap p mf a2 len2 cap2 h2 V2 0 (by unfold i64ok; omega) w2 (Keep.ints_at (unhide HI2) s1 (unhide L2).block) (unhide F2) (unhide R1))
  go_wp2_with fail
  refine (unhide HG1).mono ?_
  rintro e w4 ⟨rfl, m4, r4, c4, l4, v4, hF, hR, hr4, hk4, h40, h41⟩
  have F4 := hide hF
  have L4 := hide (below_list (unhide L2) hk4 (by simp; omega))
  obtain ⟨hl0, hl1⟩ := runs_len hR
  obtain ⟨G, hG⟩ := hR.tale
  have hi4 := hR.inv
  obtain ⟨z1, z2, z3⟩ := Hist.trace_size hi4
  have hroom := hR.room
  have hsz := hG.size
  have hi5 : (RM.save m4).Inv := RM.save_inv hi4 (by have := hR.len; omega)
  have hG5 := Hist.tale_save hG
  obtain ⟨y1, y2, y3⟩ := Hist.trace_size hi5
  have hroom5 : (RM.save m4).room = 2 + (kp room 63 : Int) := (RM.place_room' m4).trans hroom
  have hpm5 : (RM.save m4).p = p := (RM.save_p m4).1.trans hR.pm
  have HT5 := hide (fun W hW => trace_code xb (RM.save m4) W hW)
  have HSV := hide (fun W hW => save_code xb m4 hi4.ok (fun _ => hi4.head) W hW)
  have hS := Hist.trace_whole hp hi5 hG5
  have HSP := hide (span_api (RM.traceOf (RM.save m4)) (by omega))
  have hse : Hist.spanErr ((G ++ [Hist.stE m4.all.length m4.s]).drop (RM.save m4).from_) = 0 := by unfold Hist.spanErr; simp only [hS.ne, if_false]
  have hla := Hist.saved_last hi4 hG
  rw [show m4.s.n = ((l4.length - 1 : Nat) : Int) by omega] at hla
  rw [hS.run, hse, hla] at HSP
  have hS1 := hS.lo
  have hS2 := hS.le
  have hRn := Hist.run_isRun (RM.traceOf (RM.save m4))
  rw [hS.run] at hRn
  have HCH := fun n c => hide (changed_api p (RM.traceOf (RM.save m4)) hpz (by omega) n c)
  simp only [hS.run] at HCH
  have HCW : Hid (∀ n : Int, ∀ c : Nat, Hist.firstN ((G ++ [Hist.stE m4.all.length m4.s]).drop (RM.save m4).from_) ≤ n → n ≤ ((l4.length - 1 : Nat) : Int) → c ≤ 15 → Hist.changedOf p ((G ++ [Hist.stE m4.all.length m4.s]).drop (RM.save m4).from_) n (c : Int) = (Hist.wantN l4 c (Hist.firstN ((G ++ [Hist.stE m4.all.length m4.s]).drop (RM.save m4).from_)).toNat (n - Hist.firstN ((G ++ [Hist.stE m4.all.length m4.s]).drop (RM.save m4).from_)).toNat, 0)) := hide (fun n c h1 h2 h3 => Hist.changed_want hS h1 (by rw [hla]; exact h2) h3)
  have HCE : Hid (∀ i : Nat, Hist.firstN ((G ++ [Hist.stE m4.all.length m4.s]).drop (RM.save m4).from_) ≤ i → (i : Int) ≤ ((l4.length - 1 : Nat) : Int) → ∃ s, l4[i]? = some s ∧ s.cells.size = 16) := hide (fun i h1 h2 => Hist.shown_cells hp hRn hS h1 (by rw [hla]; exact h2))
  have HI5 := hide (And.intro hi5 hpm5)
  rw [hla] at hS2
  clear hF hR hk4 h40 h41 hse hla hG hG5 hi4 hi5 z1 z2 z3 y1 y2 y3 hroom hsz hroom5 hpm5 hS hRn
  generalize (G ++ [Hist.stE m4.all.length m4.s]).drop (RM.save m4).from_ = M at *
  generalize hlo : Hist.firstN M = lo at *
  obtain ⟨ln, rfl⟩ := Int.eq_ofNat_of_zero_le hS1
  simp only [Int.toNat_natCast] at HCW
  generalize RM.save m4 = m5 at *
  generalize RM.traceOf m5 = t5 at *
  have hlw : wrap64 ((l4.length : Int) - 1) = ((l4.length - 1 : Nat) : Int) := by unfold wrap64; omega
  have hlx : (((l4.length - 1 : Nat) : Int) != (l4.length : Int) - 1) = false := by
    have : ((l4.length - 1 : Nat) : Int) = (l4.length : Int) - 1 := by omega
    simp [this]
  have hld : l4.length - 1 < l4.length := by omega
  have hld2 : l4.length - 1 ≤ 10000 := by omega
  obtain ⟨ld, hldd⟩ : ∃ ld, l4.length - 1 = ld := ⟨_, rfl⟩
  rw [hldd] at hlw hlx hld hld2 hS2 HCW HCE HSP
  have hle : ln ≤ ld := by omega
  have HPK := hide (pick_k at_ (ld - ln + 1) (by omega) hat_ (by omega))
  have hkl := kp_lt at_ (n := ld - ln + 1) (by omega)
  have HPC := hide (pick_k cell 16 (by omega) hcell (by omega))
  have hkc := kp_lt cell (n := 16) (by omega)
  rw [show ((ld - ln + 1 : Nat) : Int) = (ld : Int) - (ln : Int) + 1 by omega] at HPK
  generalize kp at_ (ld - ln + 1) = pa at *
  generalize kp cell 16 = c at *
  have HCHn := hide (unhide (HCH ((ln : Int) + (pa : Int)) (c : Int)))
  rw [unhide HCW ((ln : Int) + (pa : Int)) c (by omega) (by omega) (by omega), show ((ln : Int) + (pa : Int) - (ln : Int)).toNat = pa by omega] at HCHn
  simp only at HCHn
  have n1 : ¬ ((ln : Int) < 0) := by omega
  have n2 : ¬ ((ld : Int) < (ln : Int)) := by omega
  have hq0 : ln + pa ≤ ld := by omega
  clear HCH HCW hlo hkl hldd hS1 hS2
  obtain ⟨c0, f0, g0⟩ := (unhide F4).box
  clear g0
  go_wp2_with fail
  refine (unhide HSV _ (unhide F4).code).mono ?_
  rintro e w6 ⟨rfl, hx6, hk6⟩
  have F6 := hide ((unhide F4).gone hx6 hk6 (unhide HI5).1 (unhide HI5).2)
  have L6 := hide (below_list (unhide L4) hk6 (by simp; omega))
  clear hx6 hk6 c0 f0
  obtain ⟨c0, f0, g0⟩ := (unhide F6).box
  clear g0
  go_wp2_with fail
  refine (unhide HT5 _ (unhide F6).code).mono ?_
  rintro e w' ⟨rfl, hw⟩
  obtain rfl := hw.symm
  go_wp2_with fail
  refine (unhide HSP _).mono ?_
  rintro e w7 ⟨rfl, hb⟩
  have F7 := hide ((unhide F6).next hb)
  have L7 := hide (bel_then (unhide L6) hb)
  clear hb c0 f0
  obtain ⟨c0, f0, g0⟩ := (unhide F7).box
  clear g0
  go_wp2_with fail
  refine (unhide HPK _).mono ?_
  rintro e w' ⟨rfl, hw⟩
  obtain rfl := hw.symm
  go_wp2_with fail
  refine (unhide HPC _).mono ?_
  rintro e w' ⟨rfl, hw⟩
  obtain rfl := hw.symm
  go_wp2_with fail
  refine (unhide HCHn _).mono ?_
  rintro e w9 ⟨rfl, hb⟩
  have F9 := hide ((unhide F7).next hb)
  have L9 := hide (bel_then (unhide L7) hb)
  clear hb c0 f0
  go_wp2_with fail
  go_loopw [23, 24] (fun a b wr => ∃ q : Nat, q ≤ pa ∧ a = .int .i64 (Hist.wantN l4 c ln q) ∧ b = .int .i64 ((ln + q + 1 : Nat) : Int) ∧ Below w9.heap.size w9 wr) (fun _ b _ => ln + pa + 1 - (intOf b).toNat)
  case atStart => exact ⟨0, by omega, rfl, by go_num, Below.refl _ _⟩
  case round =>
    obtain ⟨q, hq, rfl, rfl, hB⟩ := hrel
    have B10 := hide hB
    have F10 := hide ((unhide F9).next hB)
    clear hB
    by_cases hlt : q < pa
    · obtain ⟨s1, hs1, hz1⟩ := unhide HCE (ln + q + 1) (by omega) (by omega)
      obtain ⟨s0, hs0, hz0⟩ := unhide HCE (ln + q) (by omega) (by omega)
      have HWN : Hid ((Hist.cellOf s1 c = Hist.cellOf s0 c → Hist.wantN l4 c ln (q + 1) = Hist.wantN l4 c ln q) ∧ (Hist.cellOf s1 c ≠ Hist.cellOf s0 c → Hist.wantN l4 c ln (q + 1) = ((ln + q + 1 : Nat) : Int))) := hide (by
        have hwn : Hist.wantN l4 c ln (q + 1) = if Hist.cellOf s1 c ≠ Hist.cellOf s0 c then ((ln + q + 1 : Nat) : Int) else Hist.wantN l4 c ln q := by
          conv => lhs; unfold Hist.wantN
          unfold Hist.cellAt
          rw [hs1, hs0]
        constructor
        · intro h
          rw [hwn, if_neg (by simp [h])]
        · intro h
          rw [hwn, if_pos h])
      have r1 := (unhide F10).nth hs1 3 _ rfl
      have r0 := (unhide F10).nth hs0 3 _ rfl
      obtain ⟨n1', pc1, regs1, cells1, clock1, handler1, back1, pending1, halted1⟩ := s1
      obtain ⟨n0', pc0, regs0, cells0, clock0, handler0, back0, pending0, halted0⟩ := s0
      simp only at hz1 hz0
      simp only at r1 r0
      clear hs1 hs0
      obtain ⟨c0, f0, g0⟩ := (unhide F10).box
      clear g0
      have hb1 := Code.byt_eq cells1 c (by omega)
      have hb0 := Code.byt_eq cells0 c (by omega)
      have i1 : ((ln + q + 1 : Nat) : Int) < (l4.length : Int) := by omega
      have i0 : ((ln + q : Nat) : Int) < (l4.length : Int) := by omega
      have i2 : ((ln + q + 1 : Nat) : Int) ≤ (ln : Int) + (pa : Int) := by omega
      have hw1 : IntKind.i64.wrap (((ln + q + 1 : Nat) : Int) - 1) = ((ln + q : Nat) : Int) := by rw [IntKind.wrap_i64]; omega
      obtain ⟨kk, hkk⟩ : ∃ kk, kk = ln + q + 1 := ⟨_, rfl⟩
      obtain ⟨jj, hjj⟩ : ∃ jj, jj = ln + q := ⟨_, rfl⟩
      rw [← hkk] at r1 i1 i2 hw1 HWN ⊢
      rw [← hjj] at r0 i0 hw1
      have HKK := hide hkk
      have HJJ := hide hjj
      have k1 : kk < l4.length := by omega
      have k2 : jj < l4.length := by omega
      have k3 : (0 : Int) ≤ (c : Int) := by omega
      have k4 : (c : Int) < (cells1.size : Int) := by omega
      have k5 : (c : Int) < (cells0.size : Int) := by omega
      have k6 : c < cells1.size := by omega
      have k7 : c < cells0.size := by omega
      clear hkk hjj
      by_cases hd : Code.byt cells1 c = Code.byt cells0 c
      · have dq : (((Code.byt cells1 c : Nat) : Int) != ((Code.byt cells0 c : Nat) : Int)) = false := by simp [hd]
        have HW1 := hide ((unhide HWN).1 hd)
        clear hd
        go_upto_region 19 with fail
        go_quiet (fail)
        go_wp2_with fail
        go_roundw
        case rel => exact ⟨q + 1, by omega, by rw [unhide HW1], by have := unhide HKK; go_num, bel_drewN (unhide B10) _⟩
        case measure => have := unhide HKK; simp [intOf]; omega
      · have dq : (((Code.byt cells1 c : Nat) : Int) != ((Code.byt cells0 c : Nat) : Int)) = true := by
          have : ¬ (((Code.byt cells1 c : Nat) : Int) = ((Code.byt cells0 c : Nat) : Int)) := by omega
          simp [this]
        have HW1 := hide ((unhide HWN).2 hd)
        clear hd
        go_upto_region 19 with fail
        go_quiet (fail)
        go_wp2_with fail
        go_roundw
        case rel => exact ⟨q + 1, by omega, by rw [unhide HW1], by have := unhide HKK; go_num, bel_drewN (unhide B10) _⟩
        case measure => have := unhide HKK; simp [intOf]; omega
    · have hqq : q = pa := by omega
      subst hqq
      have i2 : ¬ (((ln + q + 1 : Nat) : Int) ≤ (ln : Int) + (q : Int)) := by omega
      generalize Hist.wantN l4 c ln q = wn at *
      go_wp2_with fail
      go_ret
      exact ⟨by simp, bel_then (unhide L9) (unhide B10)⟩

set_option maxRecDepth 100000 in
theorem lifted (os : Os) (started : os.Started) (H : Type) (enc : TypeId × Value → H) :
    ReturnsInHanded {} Try.checked os 7 .any (Rows.watchedSpec.pre6 enc Try.prog Try.f7 Rows.watchedRow.domain false) (Rows.watchedSpec.post enc Try.prog Try.f7 false true false false) := by
  refine returnsInHanded_of_change_sized (C := Try.checked) own started (by kernel_rfl) Try.func7
    (ChangeSpec.witness6 (enc := enc) (C := Try.checked) false ⟨#[], #[.slice none 0 0, .int .i64 0, .int .i64 0, .slice none 0 0, .int .i64 0, .int .i64 0], []⟩ 8 (by kernel_rfl) (by kernel_rfl) (by kernel_rfl) (by kernel_rfl)) ?_
  intro W base args ds gs before hval0 hW hcnd hsz0 _
  have hval : ∀ (j : Nat) t v, Try.f7.params[j]? = some t → args[j]? = some v → Value.okWide Try.prog W .any base t v := hval0
  have hW' := hW
  obtain ⟨p, q, hA0, hV, rfl, hfz, hnd⟩ := hW
  have hA : DataW.TrodAll enc Try.prog W 0 (fun _ => true) true Try.f7.params.toList args.toList ds p := hA0
  rw [Try.params7] at hA hval
  obtain ⟨v0, vs0, d0, ds0, p0, q0, hargs, rfl, rfl, h0, r0⟩ := trodAll_cons hA
  obtain ⟨v1, vs1, d1, ds1, p1, q1, rfl, rfl, rfl, h1, r1⟩ := trodAll_cons r0
  obtain ⟨v2, vs2, d2, ds2, p2, q2, rfl, rfl, rfl, h2, r2⟩ := trodAll_cons r1
  obtain ⟨v3, vs3, d3, ds3, p3, q3, rfl, rfl, rfl, h3, r3⟩ := trodAll_cons r2
  obtain ⟨v4, vs4, d4, ds4, p4, q4, rfl, rfl, rfl, h4, r4⟩ := trodAll_cons r3
  obtain ⟨v5, vs5, d5, ds5, p5, q5, rfl, rfl, rfl, h5, r5⟩ := trodAll_cons r4
  obtain ⟨rfl, rfl, rfl⟩ := trodAll_nil r5
  obtain rfl : args = #[v0, v1, v2, v3, v4, v5] := by cases args; simp_all
  obtain ⟨rfl, rfl⟩ := trodVars_none hV
  obtain ⟨a0, len0, cap0, rfl⟩ := okWide_slice Try.underlying22 (hval 0 22 v0 rfl rfl)
  obtain ⟨room, rfl⟩ := okWide_int Try.underlying3 (hval 1 3 v1 rfl rfl)
  obtain ⟨period, rfl⟩ := okWide_int Try.underlying3 (hval 2 3 v2 rfl rfl)
  obtain ⟨a3, len3, cap3, rfl⟩ := okWide_slice Try.underlying22 (hval 3 22 v3 rfl rfl)
  obtain ⟨at_, rfl⟩ := okWide_int Try.underlying3 (hval 4 3 v4 rfl rfl)
  obtain ⟨cell, rfl⟩ := okWide_int Try.underlying3 (hval 5 3 v5 rfl rfl)
  have e0 := h0
  have e1 := h1
  have e2 := h2
  have e3 := h3
  have e4 := h4
  have e5 := h5
  have lt0 : ∀ x ∈ p0, x.block < W.heap.size := by obtain ⟨m, hm⟩ := e0; exact DataW.trod_lt m _ _ _ hm
  have lt1 : ∀ x ∈ p1, x.block < W.heap.size := by obtain ⟨m, hm⟩ := e1; exact DataW.trod_lt m _ _ _ hm
  have lt2 : ∀ x ∈ p2, x.block < W.heap.size := by obtain ⟨m, hm⟩ := e2; exact DataW.trod_lt m _ _ _ hm
  have lt3 : ∀ x ∈ p3, x.block < W.heap.size := by obtain ⟨m, hm⟩ := e3; exact DataW.trod_lt m _ _ _ hm
  have lt4 : ∀ x ∈ p4, x.block < W.heap.size := by obtain ⟨m, hm⟩ := e4; exact DataW.trod_lt m _ _ _ hm
  have lt5 : ∀ x ∈ p5, x.block < W.heap.size := by obtain ⟨m, hm⟩ := e5; exact DataW.trod_lt m _ _ _ hm
  have hts : Try.f7.params.toList ++ DataSpec.varTypes Try.checked.prog Rows.watchedSpec.plain = [22, 3, 3, 22, 3, 3] := by kernel_rfl
  rw [hts] at hsz0
  have hl0 : len0 < 1000000000000000000 := by
    obtain ⟨fuel, hf⟩ := h0
    exact ints_len (x := (d0, p0)) (j := 0) (by simpa [Value.cells] using hf) rfl rfl hsz0
  have hl3 : len3 < 1000000000000000000 := by
    obtain ⟨fuel, hf⟩ := h3
    exact ints_len (x := (d3, p3)) (j := 3) (by simpa [Value.cells] using hf) rfl rfl hsz0
  obtain ⟨V0, I0⟩ : ∃ V, Ints W a0 len0 V := by
    obtain ⟨fuel, hf⟩ := h0
    exact open_ints (by simpa [Value.cells] using hf)
  have ok1 : i64ok room := by
    obtain ⟨fuel, hf⟩ := h1
    obtain ⟨z, hz, _, hw⟩ := DataW.trod_int Try.underlying3 (by simpa [Value.cells] using hf)
    simp at hz
    subst hz
    exact ok_of_wf hw
  have ok2 : i64ok period := by
    obtain ⟨fuel, hf⟩ := h2
    obtain ⟨z, hz, _, hw⟩ := DataW.trod_int Try.underlying3 (by simpa [Value.cells] using hf)
    simp at hz
    subst hz
    exact ok_of_wf hw
  obtain ⟨V3, I3⟩ : ∃ V, Ints W a3 len3 V := by
    obtain ⟨fuel, hf⟩ := h3
    exact open_ints (by simpa [Value.cells] using hf)
  have ok4 : i64ok at_ := by
    obtain ⟨fuel, hf⟩ := h4
    obtain ⟨z, hz, _, hw⟩ := DataW.trod_int Try.underlying3 (by simpa [Value.cells] using hf)
    simp at hz
    subst hz
    exact ok_of_wf hw
  have ok5 : i64ok cell := by
    obtain ⟨fuel, hf⟩ := h5
    obtain ⟨z, hz, _, hw⟩ := DataW.trod_int Try.underlying3 (by simpa [Value.cells] using hf)
    simp at hz
    subst hz
    exact ok_of_wf hw
  clear hA0 hval0
  refine (walk a0 len0 cap0 V0 (by omega) room period ok1 ok2 a3 len3 cap3 V3 hl3 at_ ok4 cell ok5 W I0 I3).mono fun e W' ⟨he, bel⟩ => ?_
  subst he
  exact ⟨_, rfl, _, _, _, [], _, [], hW', trodAll_mk1 (shut_bool Try.underlying4 _), (trodAll_cons_mk (Below.trod laidOut (by kernel_rfl) (of_decide_eq_true (by kernel_rfl)) e0 bel lt0) (trodAll_cons_mk (Below.trod laidOut (by kernel_rfl) (of_decide_eq_true (by kernel_rfl)) e1 bel lt1) (trodAll_cons_mk (Below.trod laidOut (by kernel_rfl) (of_decide_eq_true (by kernel_rfl)) e2 bel lt2) (trodAll_cons_mk (Below.trod laidOut (by kernel_rfl) (of_decide_eq_true (by kernel_rfl)) e3 bel lt3) (trodAll_cons_mk (Below.trod laidOut (by kernel_rfl) (of_decide_eq_true (by kernel_rfl)) e4 bel lt4) (trodAll_cons_mk (Below.trod laidOut (by kernel_rfl) (of_decide_eq_true (by kernel_rfl)) e5 bel lt5) trodAll_mk0)))))), rfl, bel.frame _, fun h => by cases h⟩

theorem over : Rows.watchedRow.holds Try.pinned (OpenSpec.ofChange Rows.watchedSpec) :=
  OpenClaim.holds_of_wide 7 Try.f7 rfl rfl rfl rfl rfl rfl rfl ⟨rfl, rfl, rfl, rfl, rfl⟩ rfl rfl rfl rfl rfl (by kernel_rfl) Try.func7 (by kernel_rfl)
    (of_decide_eq_true (by kernel_rfl)) (by unfold Func.isWrapper; first | (rw [if_pos (by decide +kernel)]; kernel_rfl) | (rw [if_neg (by decide +kernel)]; exact ⟨rfl, rfl⟩))
    (fun os started H enc _ => lifted os started H enc)
end WatchedP

theorem watched_holds : Rows.WatchedSaid := WatchedP.over
#print axioms watched_holds
end Go.Proofs.Ytcmoffiigpchiaa
