import Derived.Test.YtcmoffiigpchiabGreatRfH
import Derived.Test.YtcmoffiigpchiabGreatChA
namespace Go.Proofs.YtcmoffiigpchiabGreat
open Go.RowKit

namespace Hist
theorem stood_legal {p : ByteArray} {l : List En} {n : Int} {s : StV} (hg : (Code.chk p).1 = 0) (hR : IsRun l) (hne : l ≠ []) (h1 : firstN l ≤ n) (hs : stood p l n = some s) : Mach.Legal s := by
  have hm := walk_meets (p := p) hg hR hne (n - firstN l).toNat
  have ho := hm.opt
  rw [show firstN l + (((n - firstN l).toNat : Nat) : Int) = n by omega, hs] at ho
  unfold Pt.opt at ho
  split at ho
  · rename_i hk
    have hl := hm.legal hk
    rw [Option.some.inj ho] at hl
    exact hl
  · cases ho
theorem atOf_stood {p : ByteArray} {l : List En} {n : Int} (h0 : atErr p l n = 0) : atOf p l n = match stood p l n with | some s => (s, 0) | none => (Mach.zero, 9) := by
  unfold atOf
  rw [if_neg (by simp [h0])]
  cases stood p l n <;> rfl
end Hist

set_option maxRecDepth 100000 in
set_option maxHeartbeats 4000000 in
theorem rch_err (p t : ByteArray) (hp : p.size ≤ maxLen) (ht : t.size ≤ 1048576) (n cell : Int) (w : World) (h0 : Hist.atErr p (Hist.run t) n ≠ 0) :
    Calls Tryz.prog 32 #[.string p, .string t, .int .i64 n, .int .i64 cell] w fun e w' => e = .returned (.tuple #[.int .i64 0, .int .i64 (Hist.atErr p (Hist.run t) n)]) ∧ Below w.heap.size w w' := by
  have HRn := hide (run_ref t ht)
  have hn := Hist.run_length t
  have hR := Hist.run_isRun t
  have HBo := fun v w0 w1 => hide (fun hE => bounds_ref p hp (Hist.run t) hR (by omega) v n w0 w1 hE)
  have d : (Hist.atErr p (Hist.run t) n != 0) = true := by simp [h0]
  generalize Hist.atErr p (Hist.run t) n = er at *
  generalize Hist.run t = l at *
  clear h0 hR hn
  go_enter Tryz.func32, Tryz.ntmps32
  go_wp2_with fail
  refine (unhide HRn _).mono ?_
  rintro e w1 ⟨v, rfl, hE⟩
  have HE := hide hE
  have B1 := hide hE.2.1
  clear hE
  go_wp2_with fail
  refine (unhide (HBo _ _ _) (unhide HE)).mono ?_
  rintro e w2 ⟨rfl, hb⟩
  have B2 := hide ((unhide B1).trans (hb.mono (unhide B1).size))
  clear hb
  go_wp2_with fail
  refine bodyPost_ret (v := .tuple #[.int .i64 0, .int .i64 er]) (by simp [results, Tryz.results32, go_sem]) rfl ⟨rfl, ?_⟩
  exact unhide B2

set_option maxRecDepth 100000 in
set_option maxHeartbeats 4000000 in
theorem rch_none (p t : ByteArray) (hp : p.size ≤ maxLen) (ht : t.size ≤ 1048576) (n cell : Int) (w : World) (h0 : Hist.atErr p (Hist.run t) n = 0) (hso : Hist.stood p (Hist.run t) n = none) :
    Calls Tryz.prog 32 #[.string p, .string t, .int .i64 n, .int .i64 cell] w fun e w' => e = .returned (.tuple #[.int .i64 0, .int .i64 9]) ∧ Below w.heap.size w w' := by
  have HRn := hide (run_ref t ht)
  have hn := Hist.run_length t
  have hR := Hist.run_isRun t
  have HBo := fun v w0 w1 => hide (fun hE => bounds_ref p hp (Hist.run t) hR (by omega) v n w0 w1 hE)
  obtain ⟨hc, hne, h1, h2⟩ := Hist.atErr_zero h0
  have hT : Hist.Tells (Hist.run t) n := ⟨hR, hne, by omega⟩
  have HSt := fun g cap w1 => hide (fun hL rs ok hr => stood_ref p hc (Hist.run t) g cap n w1 hT (by omega) hL rs ok hr)
  have HSO : Hid (∀ w0 w1 v, ERow w0 w1 v (Hist.run t) → ∃ g cap, v = .slice (some ⟨g, 0, none⟩) (Hist.run t).length cap ∧ LiesE w1 g (Hist.run t)) := hide (fun w0 w1 v hE => by
    obtain ⟨g, cap, rfl⟩ := hE.some hne
    exact ⟨g, cap, rfl, LiesE.of hE.1⟩)
  rw [h0] at HBo
  rw [hso] at HSt
  clear hso hT hR hn h1 h2 hne hc h0
  generalize Hist.run t = l at *
  go_enter Tryz.func32, Tryz.ntmps32
  go_wp2_with fail
  refine (unhide HRn _).mono ?_
  rintro e w1 ⟨v, rfl, hE⟩
  have HE := hide hE
  have B1 := hide hE.2.1
  clear hE
  go_wp2_with fail
  refine (unhide (HBo _ _ _) (unhide HE)).mono ?_
  rintro e w2 ⟨rfl, hb⟩
  have E2 := hide ((unhide HE).next hb)
  have B2 := hide ((unhide B1).trans (hb.mono (unhide B1).size))
  clear hb
  obtain ⟨g, cap, rfl, hL⟩ := unhide HSO _ _ _ (unhide E2)
  have HL := hide hL
  clear hL
  have HS0 := hide (unhide (HSt g cap _) (unhide HL) Mach.zero false rfl)
  rw [show Mach.zero.val = .agg #[.int .i64 0, .int .i64 0, .string ⟨#[]⟩, .string ⟨#[]⟩, .int .i64 0, .int .i64 0, .int .i64 0, .bool false, .bool false] from rfl] at HS0
  go_wp2_with fail
  refine (unhide HS0).mono ?_
  rintro e w3 ⟨rfl, hb⟩
  have B3 := hide ((unhide B2).trans (hb.mono (unhide B2).size))
  have B4 := hide ((unhide B3).alloc (unhide B3).size (.cells #[.int .i64 0, .int .i64 0, .string ⟨#[]⟩, .string ⟨#[]⟩, .int .i64 0, .int .i64 0, .int .i64 0, .bool false, .bool false] 30))
  clear hb
  go_upto_region 6 with fail
  generalize w3.alloc (.cells #[.int .i64 0, .int .i64 0, .string ⟨#[]⟩, .string ⟨#[]⟩, .int .i64 0, .int .i64 0, .int .i64 0, .bool false, .bool false] 30) = w4 at *
  go_wp2_with fail
  refine bodyPost_ret (v := .tuple #[.int .i64 0, .int .i64 9]) (by simp [results, Tryz.results32, go_sem]) rfl ⟨rfl, ?_⟩
  exact unhide B4

/-- What holds while the document goes down to find a change. -/
def DownInv (w wr : World) (p : ByteArray) (l : List Hist.En) (g b : Nat) (m : Int) : Prop :=
  ∃ s, Hist.stood p l m = some s ∧ Mach.Legal s ∧ Box wr b (stA s) ∧ LiesE wr g l ∧ w.heap.size ≤ b ∧ Below w.heap.size w wr

set_option maxRecDepth 100000 in
set_option maxHeartbeats 4000000 in
theorem rch_some (p t : ByteArray) (hp : p.size ≤ maxLen) (ht : t.size ≤ 1048576) (n cell : Int) (w : World) (h0 : Hist.atErr p (Hist.run t) n = 0) (s0 : StV) (hso : Hist.stood p (Hist.run t) n = some s0) (rm re : Int)
    (hr : ((cell < 0 ∨ 15 < cell) ∧ (rm, re) = (0, 3)) ∨ (0 ≤ cell ∧ cell ≤ 15 ∧ (rm, re) = Hist.down p (Hist.run t) cell.toNat (n - Hist.firstN (Hist.run t)).toNat)) :
    Calls Tryz.prog 32 #[.string p, .string t, .int .i64 n, .int .i64 cell] w fun e w' => e = .returned (.tuple #[.int .i64 rm, .int .i64 re]) ∧ Below w.heap.size w w' := by
  have HRn := hide (run_ref t ht)
  have hn := Hist.run_length t
  have hR := Hist.run_isRun t
  have HBo := fun v w0 w1 => hide (fun hE => bounds_ref p hp (Hist.run t) hR (by omega) v n w0 w1 hE)
  obtain ⟨hc, hne, h1, h2⟩ := Hist.atErr_zero h0
  have hlt := Hist.lastTo_le hR
  have HSt := fun m (hm : Hist.firstN (Hist.run t) ≤ m) g cap w1 => hide (fun hL rs ok hr => stood_ref p hc (Hist.run t) g cap m w1 ⟨hR, hne, hm⟩ (by omega) hL rs ok hr)
  have HSO : Hid (∀ w0 w1 v, ERow w0 w1 v (Hist.run t) → ∃ g cap, v = .slice (some ⟨g, 0, none⟩) (Hist.run t).length cap ∧ LiesE w1 g (Hist.run t)) := hide (fun w0 w1 v hE => by
    obtain ⟨g, cap, rfl⟩ := hE.some hne
    exact ⟨g, cap, rfl, LiesE.of hE.1⟩)
  obtain ⟨e0, he0⟩ : ∃ e, (Hist.run t)[0]? = some e := ⟨_, List.getElem?_eq_getElem (List.length_pos_iff.2 hne)⟩
  have hf0 : Hist.firstN (Hist.run t) = e0.n := by unfold Hist.firstN; rw [List.head?_eq_getElem?, he0]
  have HFN := hide hf0
  have HLS := hide (Hist.stood_legal (n := n) hc hR hne (by omega) hso)
  have HLG := hide (fun m s h1 h2 => Hist.stood_legal (p := p) (n := m) (s := s) hc hR hne h1 h2)
  rw [h0] at HBo
  have HS1 := hide (unhide (HSt n (by omega) 0 0 w))
  clear HS1
  have hpos := List.length_pos_iff.2 hne
  generalize Hist.run t = l at *
  obtain ⟨m0, hm0⟩ : ∃ m0, l.length = m0 + 1 := ⟨l.length - 1, by omega⟩
  have HM0 := hide hm0
  have HE0 := hide he0
  have hl6 : l.length < 1000000 := by omega
  have HSO0 := hide hso
  have hn1 : Hist.firstN l ≤ n := by omega
  have hn2 : n ≤ 20000 := by omega
  have hf1 : (0 : Int) ≤ Hist.firstN l := by omega
  clear hR hn h1 h2 hne hc h0 hm0 he0 hf0 hso hlt
  obtain ⟨sn, pc, regs, cells, clock, handler, back, pending, halted⟩ := s0
  go_enter Tryz.func32, Tryz.ntmps32
  go_wp2_with fail
  refine (unhide HRn _).mono ?_
  rintro e w1 ⟨v, rfl, hE⟩
  have HE := hide hE
  have B1 := hide hE.2.1
  clear hE
  go_wp2_with fail
  refine (unhide (HBo _ _ _) (unhide HE)).mono ?_
  rintro e w2 ⟨rfl, hb⟩
  have E2 := hide ((unhide HE).next hb)
  have B2 := hide ((unhide B1).trans (hb.mono (unhide B1).size))
  clear hb
  obtain ⟨g, cap, rfl, hL⟩ := unhide HSO _ _ _ (unhide E2)
  have HL := hide hL
  clear hL
  have HS0 := hide (unhide (HSt n hn1 g cap _) (unhide HL) ⟨sn, pc, regs, cells, clock, handler, back, pending, halted⟩ true (by rw [unhide HSO0]))
  go_wp2_with fail
  refine (unhide HS0).mono ?_
  rintro e w3 ⟨rfl, hb⟩
  have B3 := hide ((unhide B2).trans (hb.mono (unhide B2).size))
  have L3 := hide ((unhide HL).next hb)
  have V4 := hide (Box.new w3 #[.int .i64 sn, .int .i64 pc, .string regs, .string cells, .int .i64 clock, .int .i64 handler, .int .i64 back, .bool pending, .bool halted] 30)
  have B4 := hide ((unhide B3).alloc (unhide B3).size (.cells #[.int .i64 sn, .int .i64 pc, .string regs, .string cells, .int .i64 clock, .int .i64 handler, .int .i64 back, .bool pending, .bool halted] 30))
  have L4 := hide ((unhide L3).next ((Below.refl w3.heap.size w3).alloc (Nat.le_refl _) (.cells #[.int .i64 sn, .int .i64 pc, .string regs, .string cells, .int .i64 clock, .int .i64 handler, .int .i64 back, .bool pending, .bool halted] 30)))
  have s3 := (unhide B3).size
  clear hb
  go_upto_region 6 with fail
  generalize w3.alloc (.cells #[.int .i64 sn, .int .i64 pc, .string regs, .string cells, .int .i64 clock, .int .i64 handler, .int .i64 back, .bool pending, .bool halted] 30) = w4 at *
  rcases hr with ⟨hbad, hr⟩ | ⟨hc0, hc1, hr⟩
  · obtain ⟨rfl, rfl⟩ := Prod.mk.inj hr
    clear hr
    rcases Int.lt_or_le cell 0 with hneg | hneg
    · go_wp2_with fail
      refine bodyPost_ret (v := .tuple #[.int .i64 0, .int .i64 3]) (by simp [results, Tryz.results32, go_sem]) rfl ⟨rfl, ?_⟩
      exact unhide B4
    · have hbig : 15 < cell := by omega
      have hno : ¬ cell < 0 := by omega
      go_wp2_with fail
      refine bodyPost_ret (v := .tuple #[.int .i64 0, .int .i64 3]) (by simp [results, Tryz.results32, go_sem]) rfl ⟨rfl, ?_⟩
      exact unhide B4
  · obtain ⟨c, rfl⟩ := Int.eq_ofNat_of_zero_le hc0
    rw [Int.toNat_natCast] at hr
    have hno1 : ¬ ((c : Int) < 0) := by omega
    have hno2 : ¬ (15 < (c : Int)) := by omega
    have hc16 : c < 16 := by omega
    have I0 : Hid (DownInv w w4 p l g w3.heap.size n) := hide ⟨_, unhide HSO0, unhide HLS, unhide V4, unhide L4, s3, unhide B4⟩
    have HR := hide hr
    clear hr
    go_wp2_with fail
    go_loopw [14] (fun i wr => ∃ k : Nat, i = .int .i64 (Hist.firstN l + k) ∧ Hist.firstN l + k ≤ n ∧ (rm, re) = Hist.down p l c k ∧ DownInv w wr p l g w3.heap.size (Hist.firstN l + k)) (fun i _ => (intOf i - Hist.firstN l).toNat)
    case atStart =>
      have e : Hist.firstN l + (((n - Hist.firstN l).toNat : Nat) : Int) = n := by omega
      exact ⟨(n - Hist.firstN l).toNat, by rw [e], by omega, unhide HR, by rw [e]; exact unhide I0⟩
    case round =>
      obtain ⟨k, rfl, hk, hdn, s, hst, hlg, hX, hLL, hbb, hB⟩ := hrel
      have X5 := hide hX
      have L5 := hide hLL
      have B5 := hide hB
      have HDN := hide hdn
      have HST := hide hst
      have hcz := hlg.cells
      have r1 := (hLL.at_ 0 e0 (unhide HE0)) 1 _ rfl
      rw [Nat.zero_mul, Nat.zero_add] at r1
      rw [← unhide HFN] at r1
      have hg5 := hLL.lt
      have hb5 := hX.lt
      clear hX hLL hB I0 hdn hst hlg HR
      obtain ⟨sn1, pc1, regs1, cells1, clock1, handler1, back1, pending1, halted1⟩ := s
      simp only [stA] at X5 hcz
      obtain ⟨cx, fx, gx⟩ := unhide X5
      clear gx
      have hil : (0 : Int) < (l.length : Int) := by omega
      cases k with
      | zero =>
        have hd0 : (rm, re) = (-1, 0) := unhide HDN
        obtain ⟨rfl, rfl⟩ := Prod.mk.inj hd0
        clear hd0 HDN
        go_wp2_with fail
        refine bodyPost_ret (v := .tuple #[.int .i64 (-1), .int .i64 0]) (by simp [results, Tryz.results32, go_sem]) rfl ⟨rfl, ?_⟩
        exact unhide B5
      | succ k =>
        have hdd := unhide HDN
        unfold Hist.down at hdd
        rw [unhide HST] at hdd
        obtain ⟨M, hM⟩ : ∃ M, M = Hist.firstN l + (k : Int) := ⟨_, rfl⟩
        have hM1 : Hist.firstN l + ((k + 1 : Nat) : Int) = M + 1 := by omega
        have HMM := hide hM
        rw [hM1] at hk HST hdd ⊢
        rw [← hM] at hdd
        have hlek : Hist.firstN l ≤ M := by omega
        have hgt : Hist.firstN l < M + 1 := by omega
        have HS2 := hide (unhide (HSt M hlek g cap wr) (unhide L5))
        clear hM hM1
        cases hs1 : Hist.stood p l M with
        | none =>
          rw [hs1] at hdd HS2
          obtain ⟨rfl, rfl⟩ := Prod.mk.inj (show (rm, re) = (0, 9) from hdd)
          have HS3 := hide (unhide HS2 Mach.zero false rfl)
          rw [show Mach.zero.val = .agg #[.int .i64 0, .int .i64 0, .string ⟨#[]⟩, .string ⟨#[]⟩, .int .i64 0, .int .i64 0, .int .i64 0, .bool false, .bool false] from rfl] at HS3
          clear hdd HS2 hs1
          go_wp2_with fail
          refine (unhide HS3).mono ?_
          rintro e w6 ⟨rfl, hb⟩
          have B6 := hide ((unhide B5).trans (hb.mono (unhide B5).size))
          have B7 := hide ((unhide B6).alloc (unhide B6).size (.cells #[.int .i64 0, .int .i64 0, .string ⟨#[]⟩, .string ⟨#[]⟩, .int .i64 0, .int .i64 0, .int .i64 0, .bool false, .bool false] 30))
          clear hb cx fx
          go_upto_region 14 with fail
          generalize w6.alloc (.cells #[.int .i64 0, .int .i64 0, .string ⟨#[]⟩, .string ⟨#[]⟩, .int .i64 0, .int .i64 0, .int .i64 0, .bool false, .bool false] 30) = w7 at *
          go_wp2_with fail
          refine bodyPost_ret (v := .tuple #[.int .i64 0, .int .i64 9]) (by simp [results, Tryz.results32, go_sem]) rfl ⟨rfl, ?_⟩
          exact unhide B7
        | some s2 =>
          have hcz2 := (unhide HLG M s2 hlek hs1).cells
          have HLG2 := hide (unhide HLG M s2 hlek hs1)
          rw [hs1] at hdd HS2
          have HS3 := hide (unhide HS2 s2 true rfl)
          have HST2 := hide hs1
          clear HS2 hs1
          obtain ⟨sn2, pc2, regs2, cells2, clock2, handler2, back2, pending2, halted2⟩ := s2
          simp only at hdd hcz2
          simp only [StV.val] at HS3
          have hb1 := Code.byt_eq cells1 c (by omega)
          have hb2 := Code.byt_eq cells2 c (by omega)
          have HDD := hide hdd
          clear hdd
          go_upto_region 14 with (go_at_call 57; refine (unhide HS3).mono ?_; rintro e w6 ⟨rfl, hb⟩; have X6 := hide ((unhide X5).next hb); have L6 := hide ((unhide L5).next hb); have B6 := hide ((unhide B5).trans (hb.mono (unhide B5).size)); clear hb cx fx r1)
          have V7 := hide (Box.new w6 #[.int .i64 sn2, .int .i64 pc2, .string regs2, .string cells2, .int .i64 clock2, .int .i64 handler2, .int .i64 back2, .bool pending2, .bool halted2] 30)
          have X7 := hide ((unhide X6).alloc (.cells #[.int .i64 sn2, .int .i64 pc2, .string regs2, .string cells2, .int .i64 clock2, .int .i64 handler2, .int .i64 back2, .bool pending2, .bool halted2] 30))
          have L7 := hide ((unhide L6).next ((Below.refl w6.heap.size w6).alloc (Nat.le_refl _) (.cells #[.int .i64 sn2, .int .i64 pc2, .string regs2, .string cells2, .int .i64 clock2, .int .i64 handler2, .int .i64 back2, .bool pending2, .bool halted2] 30)))
          have B7 := hide ((unhide B6).alloc (unhide B6).size (.cells #[.int .i64 sn2, .int .i64 pc2, .string regs2, .string cells2, .int .i64 clock2, .int .i64 handler2, .int .i64 back2, .bool pending2, .bool halted2] 30))
          have hx6 := (unhide X6).lt
          have q1 : ¬ w6.heap.size = w3.heap.size := by omega
          have q2 : ¬ w3.heap.size = w6.heap.size := by omega
          generalize w6.alloc (.cells #[.int .i64 sn2, .int .i64 pc2, .string regs2, .string cells2, .int .i64 clock2, .int .i64 handler2, .int .i64 back2, .bool pending2, .bool halted2] 30) = w7 at *
          obtain ⟨cx, fx, gx⟩ := unhide X7
          obtain ⟨cv, fv', gv⟩ := unhide V7
          clear gx gv
          have i1 : (0 : Int) ≤ (c : Int) := by omega
          have i2 : (c : Int) < (cells1.size : Int) := by omega
          have i3 : (c : Int) < (cells2.size : Int) := by omega
          have i4 : c < cells1.size := by omega
          have i5 : c < cells2.size := by omega
          have hd : Hid ((Code.byt cells2 c ≠ Code.byt cells1 c → (rm, re) = (M + 1, 0)) ∧ (Code.byt cells2 c = Code.byt cells1 c → (rm, re) = Hist.down p l c k)) := hide (by
            have h := unhide HDD
            simp only [Option.map_some, Option.some.injEq, Hist.cellOf] at h
            constructor
            · intro hne
              rw [if_pos hne] at h
              rw [h]
            · intro heq
              rw [if_neg (by simp [heq])] at h
              exact h)
          clear HDD
          have hnx : Hid (∀ W, Box W w3.heap.size (stA ⟨sn2, pc2, regs2, cells2, clock2, handler2, back2, pending2, halted2⟩) → LiesE W g l → Below w.heap.size w W → DownInv w W p l g w3.heap.size M) := hide (fun W hX hL hB => ⟨_, unhide HST2, unhide HLG2, hX, hL, hbb, hB⟩)
          have hgn : g ≠ w3.heap.size := by
            intro hge
            have h1 := (unhide L3).lt
            omega
          go_upto_region 16 with fail
          by_cases hbe : Code.byt cells2 c = Code.byt cells1 c
          · have HRS := hide ((unhide hd).2 hbe)
            have dq : (((Code.byt cells2 c : Nat) : Int) != ((Code.byt cells1 c : Nat) : Int)) = false := by simp [hbe]
            clear hd hbe
            go_quiet (fail)
            have X8 := hide ((unhide X7).drewN nq)
            have V8 := hide ((unhide V7).drewN nq)
            have L8 : Hid (LiesE (w7.drewN nq) g l) := hide ((unhide L7).keep (o := []) ((Keeps.refl w7 []).drewN nq) (by simp))
            have B8 := hide (bel_drewN (unhide B7) nq)
            generalize w7.drewN nq = w8 at *
            clear cx fx cv fv'
            obtain ⟨cx, fx, gx⟩ := unhide X8
            obtain ⟨cv, fv', gv⟩ := unhide V8
            clear gx gv
            have X9 := hide (nine_boxR (unhide X8) (.int .i64 sn2) (.int .i64 pc2) (.string regs2) (.string cells2) (.int .i64 clock2) (.int .i64 handler2) (.int .i64 back2) (.bool pending2) (.bool halted2))
            go_wp2_with fail
            go_roundw
            case rel =>
              refine ⟨k, ?_, ?_, unhide HRS, ?_⟩
              · rw [← unhide HMM]
              · rw [← unhide HMM]
                omega
              · rw [← unhide HMM]
                refine unhide hnx _ (unhide X9) ?_ ?_
                · refine (unhide L8).keep (o := [w3.heap.size]) ?_ (by simpa using hgn)
                  repeat (refine Keeps.setCell ?_ (by simp) _)
                  exact Keeps.refl _ _
                · repeat (refine Below.setCell ?_ (by simp; omega) _)
                  exact unhide B8
            case measure => simp [intOf]; omega
          · have HRS := hide ((unhide hd).1 hbe)
            have dq : (((Code.byt cells2 c : Nat) : Int) != ((Code.byt cells1 c : Nat) : Int)) = true := by
              have : ¬ (((Code.byt cells2 c : Nat) : Int) = ((Code.byt cells1 c : Nat) : Int)) := by omega
              simp [this]
            clear hd hbe
            obtain ⟨h8, h9⟩ := Prod.mk.inj (unhide HRS)
            subst h8 h9
            go_quiet (fail)
            go_wp2_with fail
            refine bodyPost_ret (v := .tuple #[.int .i64 (M + 1), .int .i64 0]) (by simp [results, Tryz.results32, go_sem]) rfl ⟨rfl, ?_⟩
            exact bel_drewN (unhide B7) nq

theorem rch_ref (p t : ByteArray) (hp : p.size ≤ maxLen) (ht : t.size ≤ 1048576) (n cell : Int) (w : World) :
    Calls Tryz.prog 32 #[.string p, .string t, .int .i64 n, .int .i64 cell] w fun e w' => e = .returned (.tuple #[.int .i64 (Hist.changedOf p (Hist.run t) n cell).1, .int .i64 (Hist.changedOf p (Hist.run t) n cell).2]) ∧ Below w.heap.size w w' := by
  by_cases h0 : Hist.atErr p (Hist.run t) n = 0
  · have hat := Hist.atOf_stood h0
    cases hs : Hist.stood p (Hist.run t) n with
    | none =>
      rw [hs] at hat
      rw [Hist.changed_err (by rw [hat]; decide), hat]
      exact rch_none p t hp ht n cell w h0 hs
    | some s =>
      rw [hs] at hat
      have ha : (Hist.atOf p (Hist.run t) n).2 = 0 := by rw [hat]
      refine rch_some p t hp ht n cell w h0 s hs _ _ ?_
      by_cases hc : cell < 0 ∨ 15 < cell
      · left
        exact ⟨hc, by rw [Hist.changed_arg ha hc]⟩
      · right
        refine ⟨by omega, by omega, ?_⟩
        unfold Hist.changedOf
        rw [if_neg (by simp [ha]), if_neg hc]
  · have hat := Hist.atOf_err h0
    rw [Hist.changed_err (by rw [hat]; exact h0), hat]
    exact rch_err p t hp ht n cell w h0
namespace Hist
theorem changed_bound (p : ByteArray) (l : List En) (n cell : Int) : 0 ≤ (changedOf p l n cell).2 ∧ (changedOf p l n cell).2 ≤ 9 := by
  have hb := atOf_bound p l n
  have hd : ∀ c k, 0 ≤ (down p l c k).2 ∧ (down p l c k).2 ≤ 9 := by
    intro c k
    induction k with
    | zero => exact (by decide : (0 : Int) ≤ 0 ∧ (0 : Int) ≤ 9)
    | succ k ih =>
      unfold down
      split
      · exact ⟨by decide, by decide⟩
      · split
        · exact (by decide : (0 : Int) ≤ 0 ∧ (0 : Int) ≤ 9)
        · exact ih
  unfold changedOf
  split
  · exact hb
  · split
    · exact ⟨by decide, by decide⟩
    · exact hd _ _
end Hist

set_option maxRecDepth 100000 in
set_option maxHeartbeats 4000000 in
theorem changed_law (p t : ByteArray) (hp : p.size ≤ maxLen) (ht : t.size ≤ 1048576) (n cell : Int) (w : World) :
    Calls Tryz.prog 13 #[.string p, .string t, .int .i64 n, .int .i64 cell] w fun e w' => e = .returned (.bool true) ∧ Below w.heap.size w w' := by
  have H1 := hide (changed_api p t hp ht n cell)
  have H2 := hide (rch_ref p t hp ht n cell)
  have hb := Hist.changed_bound p (Hist.run t) n cell
  generalize Hist.changedOf p (Hist.run t) n cell = A at *
  obtain ⟨rm, er⟩ := A
  simp only at hb H1 H2
  have H3 := hide (num_law er (by omega))
  clear hb
  go_enter Tryz.func13, Tryz.ntmps13
  go_wp2_with fail
  refine (unhide H1 _).mono ?_
  rintro e w1 ⟨rfl, hb⟩
  have B1 := hide hb
  clear hb
  go_wp2_with fail
  refine (unhide H2 _).mono ?_
  rintro e w2 ⟨rfl, hb⟩
  have B2 := hide ((unhide B1).trans (hb.mono (unhide B1).size))
  clear hb
  go_wp2_with fail
  refine (unhide H3 _).mono ?_
  rintro e w5 ⟨rfl, hw⟩
  obtain rfl := hw.symm
  go_wp2_with fail
  refine (unhide H3 _).mono ?_
  rintro e w5 ⟨rfl, hw⟩
  obtain rfl := hw.symm
  go_wp2_with fail
  go_ret
  exact ⟨by simp, unhide B2⟩

set_option maxRecDepth 100000 in
set_option maxHeartbeats 1000000 in
theorem step_changed (o : OpV) (ho : o.Ok) (hs : o.Small) (hk : o.kind = 11) (p : Value) (w : World) :
    Calls Tryz.prog 5 #[p, o.val] w fun e w' => e = .returned (.bool true) ∧ Below w.heap.size w w' := by
  have H := hide (changed_law o.p o.b ho.p hs.b o.x o.y)
  clear hs ho
  obtain ⟨kind, m, pp, b, ⟨n, pc, regs, cells, clock, handler, back, pending, halted⟩, ⟨input, ticks, interrupt⟩, x, y⟩ := o
  simp only at hk
  subst hk
  unfold OpV.val OpV.cells
  simp only at *
  go_enter Tryz.func5, Tryz.ntmps5
  go_wp2_with (go_at_call 13; refine (unhide H _).mono ?_; rintro e w' ⟨rfl, hb⟩)
  go_ret
  exact ⟨rfl, bel_alloc hb⟩
end Go.Proofs.YtcmoffiigpchiabGreat
