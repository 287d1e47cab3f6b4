import Derived.Test.YtcmoffiigpchiaaKeepD
namespace Go.Proofs.Ytcmoffiigpchiaa
open Go.RowKit
namespace Keep

def zc12 : Array Value := #[.int .u8 0, .int .u8 0, .int .u8 0, .int .u8 0, .int .u8 0, .int .u8 0, .int .u8 0, .int .u8 0, .int .u8 0, .int .u8 0, .int .u8 0, .int .u8 0]
theorem make12 (w : World) : (Instr.makeSlice 46 (.int .i64 12) (.int .i64 12)).run Try.prog w = .ok (.slice (some ⟨w.heap.size, 0, none⟩) 12 12) (w.alloc (.cells zc12 5)) := by kernel_rfl
theorem zc12_eq : zc12 = Array.replicate 12 (.int .u8 0) := rfl
theorem step_zero (p : ByteArray) (s s' : StV) (e : Int) (hp : p.size ≤ maxLen) (h : Mach.step p s zeroC = (s', e)) (w : World) :
    Calls Try.prog 27 #[.string p, s.val, .agg #[.int .i64 0, .int .i64 0, .bool false]] w fun ed w' => ed = .returned (.tuple #[s'.val, .int .i64 e]) ∧ Below w.heap.size w w' := by
  have := step_api p s zeroC hp w
  rw [h] at this
  exact this
theorem stepM_zero (b : Nat) (m : RM) (hi : RM.Inv m) (hl : m.all.length < 4611686018427387902) (w : World) (h : Box w b m.ccells) :
    Calls Try.prog 28 #[.pointer (some ⟨b, 0, none⟩), .agg #[.int .i64 0, .int .i64 0, .bool false]] w fun e w' => e = .returned (.int .i64 (RM.step m zeroC).2) ∧ Box w' b (RM.step m zeroC).1.ccells ∧ Keeps w w' [b] :=
  stepC_code b m hi hl zeroC w h

set_option maxRecDepth 100000 in
set_option maxHeartbeats 1000000 in
theorem head_k (w : World) : Calls Try.prog 21 #[] w fun e w' => e = .returned (.bool true) ∧ Below w.heap.size w w' := by
  have HN := hide (newC_ok hp 2 50 (by decide) hp_chk (by decide) (by decide) (by decide) (by decide))
  have HF := hide first_k
  have HSm := hide same_k
  have HP : Hid (hp = ⟨#[61, 97, 53, 61, 98, 55, 43, 97, 98, 62, 97, 51]⟩) := hide rfl
  have HS0 : Hid (∀ i, i < 5 → ∀ w, Calls Try.prog 27 #[.string hp, (hs i).val, .agg #[.int .i64 0, .int .i64 0, .bool false]] w fun ed w' => ed = .returned (.tuple #[(hs (i + 1)).val, .int .i64 0]) ∧ Below w.heap.size w w') := hide (fun i hi => step_zero hp (hs i) (hs (i + 1)) 0 (by decide) (hs_step i hi))
  have HS5 : Hid (∀ w, Calls Try.prog 27 #[.string hp, want.val, .agg #[.int .i64 0, .int .i64 0, .bool false]] w fun ed w' => ed = .returned (.tuple #[Mach.zero.val, .int .i64 5]) ∧ Below w.heap.size w w') := hide (step_zero hp want Mach.zero 5 (by decide) (by unfold Mach.step; rw [hs_end, if_neg (by decide)]))
  have HM0 : Hid (∀ b i, i < 5 → ∀ w, Box w b (hm i).ccells → Calls Try.prog 28 #[.pointer (some ⟨b, 0, none⟩), .agg #[.int .i64 0, .int .i64 0, .bool false]] w fun e w' => e = .returned (.int .i64 0) ∧ Box w' b (hm (i + 1)).ccells ∧ Keeps w w' [b]) := hide (fun b i hi w h => by
    obtain ⟨a1, a2, a3, a4⟩ := hm_inv i (by omega)
    have := stepM_zero b (hm i) a1 (by omega) w h
    rw [hm_err i hi] at this
    exact this)
  have HST : Hid (∀ b w, Box w b (hm 5).ccells → Calls Try.prog 23 #[.pointer (some ⟨b, 0, none⟩)] w fun e w' => e = .returned want.val ∧ Below w.heap.size w w') := hide (fun b w h => by
    have := state_code b (hm 5) w h
    rw [(hm_inv 5 (by omega)).2.1, hs_want] at this
    exact this)
  have HW5 : Hid (hs 5 = want) := hide hs_want
  have HM5 : Hid ((RM.new hp 2 50).ccells = (hm 0).ccells) := hide rfl
  have HB0 : Hid (Frame.begin = hs 0) := hide rfl
  rw [unhide HM5] at HN
  rw [unhide HP] at HN HS0 HS5
  clear HP
  rw [unhide HB0] at HF
  clear HM5 HB0
  generalize hs = hs' at *
  generalize hm = hm' at *
  go_enter Try.func21, Try.ntmps21
  go_wp2_with fail
  refine (unhide HN _).mono ?_
  rintro e w1 ⟨b, rfl, hx, hb1, hbl⟩
  have X1 := hide hx
  have L1 := hide hbl
  have hb1' := hx.lt
  clear hx hbl
  go_wp2_with fail
  refine (unhide HF _).mono ?_
  rintro e w2 ⟨rfl, hbl⟩
  have X2 := hide ((unhide X1).next hbl)
  have L2 := hide (bel_then (unhide L1) hbl)
  have hs2 := hbl.size
  clear hbl
  have hk4 : b < w2.heap.size := by omega
  have nb1 : ¬ b = w2.heap.size := by omega
  have nb2 : ¬ w2.heap.size = b := by omega
  go_wp2_with fail
  go_loopw [5] (fun i wr => ∃ q : Nat, q ≤ 5 ∧ i = .int .i64 q ∧ Box wr w2.heap.size #[.int .i64 (hs' q).n, .int .i64 (hs' q).pc, .string (hs' q).regs, .string (hs' q).cells, .int .i64 (hs' q).clock, .int .i64 (hs' q).handler, .int .i64 (hs' q).back, .bool (hs' q).pending, .bool (hs' q).halted] ∧ Box wr b (hm' q).ccells ∧ Below w.heap.size w wr) (fun i _ => 5 - (intOf i).toNat)
  case atStart => exact ⟨0, by omega, rfl, Box.new w2 _ _, (unhide X2).alloc _, (unhide L2).alloc (unhide L2).size _⟩
  case round =>
    obtain ⟨q, hq, rfl, hb4, hbx, hbl⟩ := hrel
    have S1 := hide hb4
    have X3 := hide hbx
    have L3 := hide hbl
    have z1 := hb4.lt
    have z2 := hbx.lt
    clear hb4 hbx hbl
    obtain ⟨c1, f1, g1⟩ := unhide S1
    by_cases hlt : q < 5
    · obtain ⟨s2, hs2'⟩ : ∃ s2, s2 = hs' (q + 1) := ⟨_, rfl⟩
      have HS0q : Hid (∀ w, Calls Try.prog 27 #[.string ⟨#[61, 97, 53, 61, 98, 55, 43, 97, 98, 62, 97, 51]⟩, (hs' q).val, .agg #[.int .i64 0, .int .i64 0, .bool false]] w fun ed w' => ed = .returned (.tuple #[s2.val, .int .i64 0]) ∧ Below w.heap.size w w') := hide (by rw [hs2']; exact unhide HS0 q hlt)
      have HE := hide hs2'
      clear hs2'
      obtain ⟨n2, pc2, regs2, cells2, clock2, handler2, back2, pending2, halted2⟩ := s2
      go_wp2_with fail
      refine (unhide HS0q _).mono ?_
      rintro e w3 ⟨rfl, hb⟩
      have S2 := hide ((unhide S1).next hb)
      have X4 := hide ((unhide X3).next hb)
      have L4 := hide ((unhide L3).trans (hb.mono (unhide L3).size))
      have z3 := hb.size
      clear hb c1 f1 g1
      go_wp2_with fail
      refine (unhide HM0 b q hlt _ ((unhide X4).alloc _)).mono ?_
      rintro e w4 ⟨rfl, hx, hk⟩
      have S3 := hide (((unhide S2).alloc _).keeps hk (by simp; omega))
      have T3 := hide ((Box.new w3 _ _).keeps hk (by simp; omega))
      have X5 := hide hx
      have L5 := hide (below_of_keeps ((unhide L4).alloc (unhide L4).size _) hk hb1 (by have := (unhide L4).size; simp; omega))
      clear hx hk
      obtain ⟨c1, f1, g1⟩ := unhide S3
      obtain ⟨c2, f2, g2⟩ := unhide T3
      go_wp2_with fail
      go_roundw
      case rel =>
        refine ⟨q + 1, by omega, by go_num, ?_, (unhide X5).off9 (by omega) _ _ _ _ _ _ _ _ _, bel_put9 (unhide L5) (by have := (unhide L2).size; omega) _ _ _ _ _ _ _ _ _⟩
        rw [← unhide HE]
        exact nine_box (unhide S3) _ _ _ _ _ _ _ _ _
      case measure => simp [intOf]; omega
    · have hq5 : q = 5 := by omega
      subst hq5
      rw [unhide HW5] at S1
      clear c1 f1 g1
      obtain ⟨c1, f1, g1⟩ := unhide S1
      have hm := make12
      have hb := zeros_back 12 zc12 (fun j hj => by rw [zc12_eq]; exact repl_at 12 _ j hj)
      have hzz := Frame.zeroB_size 12
      generalize zc12 = C at *
      go_upto_region 16 with fail
      go_wp2_with fail
      refine (unhide HSm want _).mono ?_
      rintro e w5 ⟨rfl, hb5⟩
      have W5 := hide ((Box.new (wr.alloc (.cells C 5)) _ _).next hb5)
      have B5 := hide (bel_alloc (bel_alloc hb5))
      have S5 := hide ((unhide S1).next (unhide B5))
      have X5 := hide ((unhide X3).next (unhide B5))
      have L5 := hide ((unhide L3).trans ((unhide B5).mono (unhide L3).size))
      have e5 : (wr.alloc (.cells C 5)).heap.size = wr.heap.size + 1 := by simp
      rw [e5] at W5
      clear hb5 c1 f1 g1 e5 hm hb
      obtain ⟨c1, f1, g1⟩ := unhide S5
      obtain ⟨c2, f2, g2⟩ := unhide W5
      go_wp2_with fail
      refine (unhide HS5 _).mono ?_
      rintro e w6 ⟨rfl, hb6⟩
      have W6 := hide ((unhide W5).next hb6)
      have X6 := hide ((unhide X5).next hb6)
      have L6' := hide ((unhide L5).trans (hb6.mono (unhide L5).size))
      have s6 := hb6.size
      clear hb6 c1 f1 g1 c2 f2
      go_wp2_with fail
      refine (unhide HST b _ ((unhide X6).alloc _)).mono ?_
      rintro e w7 ⟨rfl, hb7⟩
      have W7 := hide (((unhide W6).alloc _).next hb7)
      have L7 := hide ((unhide L6').trans ((bel_alloc hb7).mono (unhide L6').size))
      have s7 := hb7.size
      have g7 := (unhide W7).lt
      clear hb7 g2
      obtain ⟨c2, f2, g2⟩ := unhide W7
      have n1 : ¬ wr.heap.size + 1 = w7.heap.size := by omega
      have n2 : ¬ w7.heap.size = wr.heap.size + 1 := by omega
      go_wp2_with fail
      refine (unhide HSm want _).mono ?_
      rintro e w8 ⟨rfl, hb8⟩
      have L8 := hide ((unhide L7).trans ((bel_alloc hb8).mono (unhide L7).size))
      clear hb8
      go_wp2_with fail
      go_ret
      exact ⟨rfl, unhide L8⟩
end Keep
end Go.Proofs.Ytcmoffiigpchiaa
