import Derived.Test.YtcmoffiigpchiabGreatPaF
namespace Go.Proofs.YtcmoffiigpchiabGreat
open Go.RowKit

set_option maxRecDepth 100000 in
set_option maxHeartbeats 1000000 in
theorem cell_code (s : StV) (c : Int) (h0 : 0 ≤ c) (h1 : c < s.cells.size) (w : World) :
    Calls Tryz.prog 111 #[s.val, .int .i64 c] w fun e w' => e = .returned (.int .i64 (Hist.cellOf s c.toNat : Nat)) ∧ Below w.heap.size w w' := by
  have HG := hide (get_code s.cells c h0 h1)
  have HE : Hid (Hist.cellOf s c.toNat = Code.byt s.cells c.toNat) := hide rfl
  generalize Hist.cellOf s c.toNat = x at *
  obtain ⟨sn, pc, regs, cells, clock, handler, back, pending, halted⟩ := s
  simp only at *
  generalize Code.byt cells c.toNat = y at *
  clear h0 h1
  go_enter Tryz.func111, Tryz.ntmps111
  go_wp2_with fail
  refine (unhide HG _).mono ?_
  rintro e w1 ⟨rfl, hw⟩
  obtain rfl := hw.symm
  go_wp2_with fail
  go_ret
  exact ⟨by rw [unhide HE]; rfl, (Below.refl _ _).alloc (Nat.le_refl _) _⟩

set_option maxRecDepth 100000 in
set_option maxHeartbeats 1000000 in
theorem differ_code (n1 n2 : Int) (s1 s2 : StV) (k1 k2 : Bool) (v1 v2 : Value) (c : Int) (h0 : 0 ≤ c) (h1 : c < s1.cells.size) (h2 : c < s2.cells.size) (hv1 : ∃ a m cp, v1 = .slice a m cp) (hv2 : ∃ a m cp, v2 = .slice a m cp) (w : World) :
    Calls Tryz.prog 86 #[pval n1 s1 k1 v1, pval n2 s2 k2 v2, .int .i64 c] w fun e w' => e = .returned (.bool (decide (Hist.cellOf s1 c.toNat ≠ Hist.cellOf s2 c.toNat))) ∧ Below w.heap.size w w' := by
  have H1 := hide (cell_code s1 c h0 h1)
  have H2 := hide (cell_code s2 c h0 h2)
  generalize Hist.cellOf s1 c.toNat = x1 at *
  generalize Hist.cellOf s2 c.toNat = x2 at *
  obtain ⟨a1, m1, p1, rfl⟩ := hv1
  obtain ⟨a2, m2, p2, rfl⟩ := hv2
  obtain ⟨sn, pc, regs, cells, clock, handler, back, pending, halted⟩ := s1
  obtain ⟨sn', pc', regs', cells', clock', handler', back', pending', halted'⟩ := s2
  simp only [pval, pcells] at *
  clear h0 h1 h2
  have hd : Hid (((x1 : Int) != (x2 : Int)) = decide (x1 ≠ x2)) := hide (by
    by_cases h : x1 = x2
    · simp [h]
    · simp [h]
      omega)
  go_enter Tryz.func86, Tryz.ntmps86
  go_upto_region 1 with fail
  have X0 := hide ((Box.new w #[.int .i64 n1, .int .i64 sn, .int .i64 pc, .string regs, .string cells, .int .i64 clock, .int .i64 handler, .int .i64 back, .bool pending, .bool halted, .bool k1, .slice a1 m1 p1] 124).alloc (.cells #[.int .i64 n2, .int .i64 sn', .int .i64 pc', .string regs', .string cells', .int .i64 clock', .int .i64 handler', .int .i64 back', .bool pending', .bool halted', .bool k2, .slice a2 m2 p2] 124))
  have Y0 := hide (sec_box w (.cells #[.int .i64 n1, .int .i64 sn, .int .i64 pc, .string regs, .string cells, .int .i64 clock, .int .i64 handler, .int .i64 back, .bool pending, .bool halted, .bool k1, .slice a1 m1 p1] 124) #[.int .i64 n2, .int .i64 sn', .int .i64 pc', .string regs', .string cells', .int .i64 clock', .int .i64 handler', .int .i64 back', .bool pending', .bool halted', .bool k2, .slice a2 m2 p2] 124)
  have B0 := hide (((Below.refl w.heap.size w).alloc (Nat.le_refl _) (.cells #[.int .i64 n1, .int .i64 sn, .int .i64 pc, .string regs, .string cells, .int .i64 clock, .int .i64 handler, .int .i64 back, .bool pending, .bool halted, .bool k1, .slice a1 m1 p1] 124)).alloc (by simp) (.cells #[.int .i64 n2, .int .i64 sn', .int .i64 pc', .string regs', .string cells', .int .i64 clock', .int .i64 handler', .int .i64 back', .bool pending', .bool halted', .bool k2, .slice a2 m2 p2] 124))
  generalize (w.alloc (.cells #[.int .i64 n1, .int .i64 sn, .int .i64 pc, .string regs, .string cells, .int .i64 clock, .int .i64 handler, .int .i64 back, .bool pending, .bool halted, .bool k1, .slice a1 m1 p1] 124)).alloc (.cells #[.int .i64 n2, .int .i64 sn', .int .i64 pc', .string regs', .string cells', .int .i64 clock', .int .i64 handler', .int .i64 back', .bool pending', .bool halted', .bool k2, .slice a2 m2 p2] 124) = wy at *
  obtain ⟨cx, fx, gx⟩ := unhide X0
  clear gx
  go_wp2_with fail
  refine (unhide H1 _).mono ?_
  rintro e w1 ⟨rfl, hb⟩
  have Y1 := hide ((unhide Y0).next hb)
  have B1 := hide ((unhide B0).trans (hb.mono (unhide B0).size))
  clear hb cx fx
  obtain ⟨cy, fy, gy⟩ := unhide Y1
  clear gy
  go_wp2_with fail
  refine (unhide H2 _).mono ?_
  rintro e w2 ⟨rfl, hb⟩
  have B2 := hide ((unhide B1).trans (hb.mono (unhide B1).size))
  clear hb cy fy
  go_wp2_with fail
  go_ret
  exact ⟨by rw [← unhide hd]; rfl, unhide B2⟩

set_option maxHeartbeats 1000000 in
theorem iscell_code (c : Int) (w : World) :
    Calls Tryz.prog 85 #[.int .i64 c] w fun e w' => e = .returned (.bool (Mach.wi c 0 15)) ∧ w' = w := by
  have H := hide (within_code c 0 15)
  generalize Mach.wi c 0 15 = b at *
  go_enter Tryz.func85, Tryz.ntmps85
  go_wp2_with fail
  refine (unhide H _).mono ?_
  rintro e w1 ⟨rfl, hw⟩
  obtain rfl := hw.symm
  go_wp2_with fail
  go_ret
  exact ⟨rfl, rfl⟩

/-- What holds while the program goes up to find a change. -/
def ChInv (w wr : World) (l : List Hist.En) (g cap b : Nat) (x : Hist.Pt) : Prop :=
  ∃ j o, j ≤ l.length ∧ (j < l.length → o = j * 15) ∧ x.later = l.drop j ∧ Box wr b (pcells x.n x.s x.known (slF g cap l.length j o)) ∧ LiesF wr g l ∧ w.heap.size ≤ b ∧ Below w.heap.size w wr

set_option maxRecDepth 100000 in
set_option maxHeartbeats 4000000 in
/-- Changed, where it is refused. -/
theorem hch_out (p : ByteArray) (hp : p.size ≤ maxLen) (hg : (Code.chk p).1 = 0) (l : List Hist.En) (v : Value) (n cell er : Int) (w0 w : World) (hR : Hist.IsRun l) (hl : l.length < 1000000) (hF : FRow w0 w v l)
    (hx : (er = (Hist.atOf p l n).2 ∧ er ≠ 0) ∨ ((Hist.atOf p l n).2 = 0 ∧ Mach.wi cell 0 15 = false ∧ er = 3)) :
    Calls Tryz.prog 58 #[.string p, v, .int .i64 n, .int .i64 cell] w fun e w' => e = .returned (.tuple #[.int .i64 0, .int .i64 er]) ∧ Below w.heap.size w w' := by
  have HA := hide (hat_code p hp hg l v n w0 w hR hl hF)
  have HC := hide (iscell_code cell)
  clear hF hR hl
  generalize Hist.atOf p l n = A at *
  obtain ⟨⟨sn, pc, regs, cells, clock, handler, back, pending, halted⟩, e0⟩ := A
  simp only at HA hx
  rcases hx with ⟨rfl, h1⟩ | ⟨rfl, h1, rfl⟩
  · have d : (er != 0) = true := by simp [h1]
    clear h1
    go_enter Tryz.func58, Tryz.ntmps58
    go_wp2_with fail
    refine (unhide HA).mono ?_
    rintro e w1 ⟨rfl, hb⟩
    have B1 := hide (hb.alloc hb.size (.cells #[.int .i64 sn, .int .i64 pc, .string regs, .string cells, .int .i64 clock, .int .i64 handler, .int .i64 back, .bool pending, .bool halted] 30))
    clear hb
    go_upto_region 2 with fail
    generalize w1.alloc (.cells #[.int .i64 sn, .int .i64 pc, .string regs, .string cells, .int .i64 clock, .int .i64 handler, .int .i64 back, .bool pending, .bool halted] 30) = w2 at *
    go_wp2_with fail
    refine bodyPost_ret (v := .tuple #[.int .i64 0, .int .i64 er]) (by simp [results, Tryz.results58, go_sem]) rfl ⟨rfl, ?_⟩
    exact unhide B1
  · rw [h1] at HC
    clear h1
    go_enter Tryz.func58, Tryz.ntmps58
    go_wp2_with fail
    refine (unhide HA).mono ?_
    rintro e w1 ⟨rfl, hb⟩
    have B1 := hide (hb.alloc hb.size (.cells #[.int .i64 sn, .int .i64 pc, .string regs, .string cells, .int .i64 clock, .int .i64 handler, .int .i64 back, .bool pending, .bool halted] 30))
    clear hb
    go_upto_region 2 with fail
    generalize w1.alloc (.cells #[.int .i64 sn, .int .i64 pc, .string regs, .string cells, .int .i64 clock, .int .i64 handler, .int .i64 back, .bool pending, .bool halted] 30) = w2 at *
    go_wp2_with fail
    refine (unhide HC _).mono ?_
    rintro e w3 ⟨rfl, hw⟩
    obtain rfl := hw.symm
    go_wp2_with fail
    refine bodyPost_ret (v := .tuple #[.int .i64 0, .int .i64 3]) (by simp [results, Tryz.results58, go_sem]) rfl ⟨rfl, ?_⟩
    exact unhide B1

set_option maxRecDepth 100000 in
set_option maxHeartbeats 4000000 in
/-- Changed, where it is looked for. -/
theorem hch_in (p : ByteArray) (hp : p.size ≤ maxLen) (hg : (Code.chk p).1 = 0) (l : List Hist.En) (g cap : Nat) (n cell : Int) (w0 w : World) (hR : Hist.IsRun l) (hl : l.length < 1000000) (hF : FRow w0 w (.slice (some ⟨g, 0, none⟩) l.length cap) l) (hcap : l.length ≤ cap)
    (hne : l ≠ []) (h1 : Hist.firstN l ≤ n) (h2 : n ≤ 20000) (ha : (Hist.atOf p l n).2 = 0) (hc0 : 0 ≤ cell) (hc1 : cell ≤ 15) (rm re : Int) (hr : (rm, re) = Hist.upwards p l cell.toNat (n - Hist.firstN l).toNat) :
    Calls Tryz.prog 58 #[.string p, .slice (some ⟨g, 0, none⟩) l.length cap, .int .i64 n, .int .i64 cell] w fun e w' => e = .returned (.tuple #[.int .i64 rm, .int .i64 re]) ∧ Below w.heap.size w w' := by
  obtain ⟨e0, he0⟩ : ∃ e, l[0]? = some e := ⟨_, List.getElem?_eq_getElem (List.length_pos_iff.2 hne)⟩
  have hf0 : Hist.firstN l = e0.n := by unfold Hist.firstN; rw [List.head?_eq_getElem?, he0]
  have HA := hide (hat_code p hp hg l _ n w0 w hR hl hF)
  have HC := hide (iscell_code cell)
  have hwi : Mach.wi cell 0 15 = true := by unfold Mach.wi; exact decide_eq_true ⟨hc0, hc1⟩
  rw [hwi] at HC
  have HB := fun w1 => hide (fun h => begin_code l g cap 0 e0 he0 hcap hl w1 h)
  simp only [slF, Nat.sub_zero, Nat.zero_mul, List.drop_zero] at HB
  have HN := fun w1 j o s k (x : Int) => hide (fun h1 h2 h3 h4 h5 => next_code p hp l g cap j o h1 h2 hcap hl x h3 h4 s k w1 h5)
  have HW := hide (Hist.walk_meets (p := p) hg hR hne)
  rw [hf0] at HW hr h1
  have HL := hide (LiesF.of (w := w0) hF.choose_spec.choose_spec.2.1)
  have HD := fun n1 n2 s1 s2 k1 k2 v1 v2 => hide (fun h1 h2 h3 h4 => differ_code n1 n2 s1 s2 k1 k2 v1 v2 cell hc0 h1 h2 h3 h4)
  obtain ⟨Wk, hWk⟩ : ∃ W, W = Hist.walk p l := ⟨_, rfl⟩
  have hW0 : Hist.beginP l = Wk 0 := by rw [hWk]; rfl
  have HWS : Hid (∀ k, Hist.nextP p (Wk k) = Wk (k + 1)) := hide (fun k => by rw [hWk]; rfl)
  obtain ⟨Uk, hUk⟩ : ∃ U, U = Hist.upwards p l cell.toNat := ⟨_, rfl⟩
  have HU0 : Hid (Uk 0 = (-1, 0)) := hide (by rw [hUk]; rfl)
  have HUS : Hid (∀ k, Uk (k + 1) = if (Wk (k + 1)).known = false then (0, 9) else if (Wk k).known = true ∧ Hist.cellOf (Wk (k + 1)).s cell.toNat ≠ Hist.cellOf (Wk k).s cell.toNat then ((Wk (k + 1)).n, 0) else Uk k) := hide (fun k => by rw [hUk, hWk]; rfl)
  rw [← hWk] at HW
  rw [hW0] at HB
  rw [← hUk] at hr
  have HR := hide hr
  have he00 : (0 : Int) ≤ e0.n := by omega
  clear hWk hW0 hr hF hR he0 hf0 hne hUk hwi
  generalize Hist.atOf p l n = A0 at *
  obtain ⟨⟨sn, pc, regs, cells, clock, handler, back, pending, halted⟩, er0⟩ := A0
  simp only at ha
  subst ha
  generalize ((e0.n : Nat) : Int) = t0 at *
  go_enter Tryz.func58, Tryz.ntmps58
  go_wp2_with fail
  refine (unhide HA).mono ?_
  rintro e w1 ⟨rfl, hb⟩
  have L1 := hide (((unhide HL).next hb).next ((Below.refl w1.heap.size w1).alloc (Nat.le_refl _) (.cells #[.int .i64 sn, .int .i64 pc, .string regs, .string cells, .int .i64 clock, .int .i64 handler, .int .i64 back, .bool pending, .bool halted] 30)))
  have B1 := hide (hb.alloc hb.size (.cells #[.int .i64 sn, .int .i64 pc, .string regs, .string cells, .int .i64 clock, .int .i64 handler, .int .i64 back, .bool pending, .bool halted] 30))
  clear hb
  go_upto_region 2 with fail
  generalize w1.alloc (.cells #[.int .i64 sn, .int .i64 pc, .string regs, .string cells, .int .i64 clock, .int .i64 handler, .int .i64 back, .bool pending, .bool halted] 30) = w2 at *
  go_wp2_with fail
  refine (unhide HC _).mono ?_
  rintro e w' ⟨rfl, hw⟩
  obtain rfl := hw.symm
  go_wp2_with fail
  refine (unhide (HB _) (unhide L1)).mono ?_
  rintro e w3 ⟨v, rfl, ht, hb⟩
  obtain ⟨j, o, t1, t2, t3, rfl⟩ := ht
  have L3 := hide ((unhide L1).next hb)
  have B3 := hide ((unhide B1).trans (hb.mono (unhide B1).size))
  clear hb
  have I0 : Hid (ChInv w (w3.alloc (.cells (pcells (Wk 0).n (Wk 0).s (Wk 0).known (slF g cap l.length j o)) 124)) l g cap w3.heap.size (Wk 0)) := hide ⟨j, o, t1, t2, t3, Box.new w3 _ _, (unhide L3).next ((Below.refl _ _).alloc (Nat.le_refl _) _), (unhide B3).size, (unhide B3).alloc (unhide B3).size _⟩
  clear t1 t2 t3
  go_wp2_with fail
  go_loopw [12, 11] (fun c f wr => ∃ k : Nat, t0 + k ≤ n ∧ c = .int .i64 (Uk k).1 ∧ f = .int .i64 (Uk k).2 ∧ ChInv w wr l g cap w3.heap.size (Wk k)) (fun _ _ wr => leftAt wr w3.heap.size n)
  case atStart => exact ⟨0, by omega, by rw [unhide HU0], by rw [unhide HU0], unhide I0⟩
  case round =>
    obtain ⟨k, hk, rfl, rfl, j, o, hj, ho, hla, hX, hLL, hbb, hB⟩ := hrel
    have X4 := hide hX
    have L4 := hide hLL
    have B4 := hide hB
    have hm := unhide HW k
    have ht := hm.time
    have HLG := hide hm.legal
    have HPE : Hid ((⟨(Wk k).n, (Wk k).s, (Wk k).known, l.drop j⟩ : Hist.Pt) = Wk k) := hide (by rw [← hla])
    clear hX hLL hB hm I0
    simp only [pcells] at X4
    obtain ⟨cx, fx, gx⟩ := unhide X4
    have hx4 := (unhide X4).lt
    clear gx
    by_cases hlt : (Wk k).n < n
    · have HNN := hide (fun wz h => unhide (HN wz j o (Wk k).s (Wk k).known (Wk k).n) ho hj (by omega) (by omega) h)
      rw [unhide HPE, unhide HWS] at HNN
      simp only [pval, pcells] at HNN
      have hk2 : t0 + ((k + 1 : Nat) : Int) ≤ n := by omega
      have ht2 := (unhide HW (k + 1)).time
      have HLG2 := hide (unhide HW (k + 1)).legal
      have HTI := hide ht
      have HTI2 := hide ht2
      have HUK := hide (unhide HUS k)
      clear ht ht2 hk
      generalize hU1 : Uk (k + 1) = U1 at *
      have HU1 := hide hU1
      generalize hX1 : Wk (k + 1) = X1 at *
      have HX1 := hide hX1
      generalize Wk k = X0 at *
      generalize Uk k = U0 at *
      clear hU1 hX1
      obtain ⟨xn, ⟨xsn, xpc, xregs, xcells, xclock, xhandler, xback, xpending, xhalted⟩, xk, xl⟩ := X0
      obtain ⟨yn, ⟨ysn, ypc, yregs, ycells, yclock, yhandler, yback, ypending, yhalted⟩, yk, yl⟩ := X1
      simp only at *
      go_upto_region 10 with fail
      have X5 := hide ((unhide X4).alloc (.cells #[.int .i64 xn, .int .i64 xsn, .int .i64 xpc, .string xregs, .string xcells, .int .i64 xclock, .int .i64 xhandler, .int .i64 xback, .bool xpending, .bool xhalted, .bool xk, slF g cap l.length j o] 124))
      have A5 := hide (Box.new wr #[.int .i64 xn, .int .i64 xsn, .int .i64 xpc, .string xregs, .string xcells, .int .i64 xclock, .int .i64 xhandler, .int .i64 xback, .bool xpending, .bool xhalted, .bool xk, slF g cap l.length j o] 124)
      have L5 := hide ((unhide L4).next ((Below.refl wr.heap.size wr).alloc (Nat.le_refl _) (.cells #[.int .i64 xn, .int .i64 xsn, .int .i64 xpc, .string xregs, .string xcells, .int .i64 xclock, .int .i64 xhandler, .int .i64 xback, .bool xpending, .bool xhalted, .bool xk, slF g cap l.length j o] 124)))
      have B5 := hide ((unhide B4).alloc (unhide B4).size (.cells #[.int .i64 xn, .int .i64 xsn, .int .i64 xpc, .string xregs, .string xcells, .int .i64 xclock, .int .i64 xhandler, .int .i64 xback, .bool xpending, .bool xhalted, .bool xk, slF g cap l.length j o] 124))
      generalize wr.alloc (.cells #[.int .i64 xn, .int .i64 xsn, .int .i64 xpc, .string xregs, .string xcells, .int .i64 xclock, .int .i64 xhandler, .int .i64 xback, .bool xpending, .bool xhalted, .bool xk, slF g cap l.length j o] 124) = wq at *
      clear cx fx
      obtain ⟨cx, fx, gx⟩ := unhide X5
      clear gx
      go_cut [] from 30 to 50 (fun wx => ∃ j' o', j' ≤ l.length ∧ (j' < l.length → o' = j' * 15) ∧ yl = l.drop j' ∧ Box wx w3.heap.size #[.int .i64 yn, .int .i64 ysn, .int .i64 ypc, .string yregs, .string ycells, .int .i64 yclock, .int .i64 yhandler, .int .i64 yback, .bool ypending, .bool yhalted, .bool yk, slF g cap l.length j' o'] ∧ Box wx wr.heap.size #[.int .i64 xn, .int .i64 xsn, .int .i64 xpc, .string xregs, .string xcells, .int .i64 xclock, .int .i64 xhandler, .int .i64 xback, .bool xpending, .bool xhalted, .bool xk, slF g cap l.length j o] ∧ LiesF wx g l ∧ Below w.heap.size w wx)
      case first =>
        go_wp2_with fail
        refine (unhide HNN _ (unhide L5)).mono ?_
        rintro e w5 ⟨v, rfl, htt, hb⟩
        obtain ⟨j', o', t1, t2, t3, rfl⟩ := htt
        have X6 := hide ((unhide X5).next hb)
        have A6 := hide ((unhide A5).next hb)
        have L6 := hide ((unhide L5).next hb)
        have B6 := hide ((unhide B5).trans (hb.mono (unhide B5).size))
        have hg5 := (unhide HL).lt
        clear hb cx fx
        obtain ⟨cx, fx, gx⟩ := unhide X6
        clear gx
        have X7 := hide ((unhide X6).putQ (.int .i64 yn) (.int .i64 ysn) (.int .i64 ypc) (.string yregs) (.string ycells) (.int .i64 yclock) (.int .i64 yhandler) (.int .i64 yback) (.bool ypending) (.bool yhalted) (.bool yk) (slF g cap l.length j' o'))
        go_wp2_with fail
        go_meet
        case rel =>
          refine ⟨j', o', t1, t2, t3, unhide X7, ?_, ?_, ?_⟩
          · repeat (refine Box.off ?_ (by simp; omega) _)
            exact unhide A6
          · refine (unhide L6).keep (o := [w3.heap.size]) ?_ (by simp; omega)
            repeat (refine Keeps.setCell ?_ (by simp) _)
            exact Keeps.refl _ _
          · repeat (refine Below.setCell ?_ (by simp; omega) _)
            exact unhide B6
      case rest =>
        obtain ⟨j', o', t1, t2, t3, x1, a1, l1, b1⟩ := hcut
        have X8 := hide x1
        have A8 := hide a1
        have L8 := hide l1
        have B8 := hide b1
        have HT1 := hide t1
        have HT2 := hide t2
        have HT3 := hide t3
        clear x1 a1 l1 b1 t1 t2 t3 cx fx X5 A5 L5 B5
        obtain ⟨cx, fx, gx⟩ := unhide X8
        obtain ⟨ca, fa, ga⟩ := unhide A8
        clear gx ga
        have hms : Hid (leftAt wc w3.heap.size n < leftAt wr w3.heap.size n) := hide (by
          rw [leftAt_box (unhide X8) (k := .i64) (x := yn) rfl, leftAt_box (unhide X4) (k := .i64) (x := xn) rfl]
          have h1 := unhide HTI
          have h2 := unhide HTI2
          omega)
        have hend : Hid (∀ U : Int × Int, U = U1 → ∃ k : Nat, t0 + k ≤ n ∧ (Value.int .i64 U.1) = .int .i64 (Uk k).1 ∧ (Value.int .i64 U.2) = .int .i64 (Uk k).2 ∧ ChInv w wc l g cap w3.heap.size (Wk k)) := hide (fun U hU => by
          refine ⟨k + 1, hk2, by rw [unhide HU1, hU], by rw [unhide HU1, hU], ?_⟩
          rw [unhide HX1]
          exact ⟨j', o', unhide HT1, unhide HT2, unhide HT3, unhide X8, unhide L8, hbb, unhide B8⟩)
        cases yk with
        | false =>
          have hu : U1 = (0, 9) := by have := unhide HUK; simpa using this
          go_wp2_with fail
          go_roundw
          case rel => exact unhide hend (0, 9) hu.symm
          case measure => exact unhide hms
        | true =>
          cases xk with
          | false =>
            have hu : U1 = U0 := by have := unhide HUK; simpa using this
            go_wp2_with fail
            go_roundw
            case rel => exact unhide hend U0 hu.symm
            case measure => exact unhide hms
          | true =>
            have z1 := (unhide HLG rfl).cells
            have z2 := (unhide HLG2 rfl).cells
            simp only at z1 z2
            have HDD := hide (unhide (HD yn xn ⟨ysn, ypc, yregs, ycells, yclock, yhandler, yback, ypending, yhalted⟩ ⟨xsn, xpc, xregs, xcells, xclock, xhandler, xback, xpending, xhalted⟩ true true (slF g cap l.length j' o') (slF g cap l.length j o)) (by simp only; omega) (by simp only; omega) ⟨_, _, _, rfl⟩ ⟨_, _, _, rfl⟩)
            simp only [pval, pcells] at HDD
            have hu := unhide HUK
            simp only [Bool.true_eq_false, if_false, true_and] at hu
            by_cases hd : Hist.cellOf ⟨ysn, ypc, yregs, ycells, yclock, yhandler, yback, ypending, yhalted⟩ cell.toNat ≠ Hist.cellOf ⟨xsn, xpc, xregs, xcells, xclock, xhandler, xback, xpending, xhalted⟩ cell.toNat
            · rw [if_pos hd] at hu
              rw [decide_eq_true hd] at HDD
              have HUU := hide hu
              clear hu hd
              go_wp2_with fail
              refine (unhide HDD _).mono ?_
              rintro e w9 ⟨rfl, hb⟩
              have X9 := hide ((unhide X8).next hb)
              have L9 := hide ((unhide L8).next hb)
              have B9 := hide ((unhide B8).trans (hb.mono (unhide B8).size))
              clear hb cx fx ca fa
              obtain ⟨cx, fx, gx⟩ := unhide X9
              clear gx
              go_wp2_with fail
              go_roundw
              case rel =>
                refine ⟨k + 1, hk2, by rw [unhide HU1, unhide HUU], by rw [unhide HU1, unhide HUU], ?_⟩
                rw [unhide HX1]
                exact ⟨j', o', unhide HT1, unhide HT2, unhide HT3, unhide X9, unhide L9, hbb, unhide B9⟩
              case measure =>
                rw [leftAt_box (unhide X9) (k := .i64) (x := yn) rfl, leftAt_box (unhide X4) (k := .i64) (x := xn) rfl]
                have h1 := unhide HTI
                have h2 := unhide HTI2
                omega
            · rw [if_neg hd] at hu
              rw [decide_eq_false hd] at HDD
              have HUU := hide hu
              clear hu hd
              go_wp2_with fail
              refine (unhide HDD _).mono ?_
              rintro e w9 ⟨rfl, hb⟩
              have X9 := hide ((unhide X8).next hb)
              have L9 := hide ((unhide L8).next hb)
              have B9 := hide ((unhide B8).trans (hb.mono (unhide B8).size))
              clear hb cx fx ca fa
              go_wp2_with fail
              go_roundw
              case rel =>
                refine ⟨k + 1, hk2, by rw [unhide HU1, unhide HUU], by rw [unhide HU1, unhide HUU], ?_⟩
                rw [unhide HX1]
                exact ⟨j', o', unhide HT1, unhide HT2, unhide HT3, unhide X9, unhide L9, hbb, unhide B9⟩
              case measure =>
                rw [leftAt_box (unhide X9) (k := .i64) (x := yn) rfl, leftAt_box (unhide X4) (k := .i64) (x := xn) rfl]
                have h1 := unhide HTI
                have h2 := unhide HTI2
                omega
    · have hnn : k = (n - t0).toNat := by omega
      have hrr := unhide HR
      rw [← hnn] at hrr
      obtain ⟨h5, h6⟩ := Prod.mk.inj (show (rm, re) = ((Uk k).1, (Uk k).2) from hrr)
      subst h5 h6
      clear ht hnn hrr
      go_wp2_with fail
      refine bodyPost_ret (v := .tuple #[.int .i64 (Uk k).1, .int .i64 (Uk k).2]) (by simp [results, Tryz.results58, go_sem]) rfl ⟨rfl, ?_⟩
      exact unhide B4
namespace Hist
theorem atOf_ok {p : ByteArray} {l : List En} {n : Int} (h : (atOf p l n).2 = 0) : (Code.chk p).1 = 0 ∧ l ≠ [] ∧ firstN l ≤ n ∧ n ≤ lastTo l ∧ ∃ s, stood p l n = some s := by
  unfold atOf at h
  split at h
  · rename_i h1
    exact absurd h h1
  · rename_i h1
    have h0 : atErr p l n = 0 := by
      by_cases hx : atErr p l n = 0
      · exact hx
      · exact absurd hx h1
    unfold atErr at h0
    split at h0
    · rename_i h2; exact absurd h0 h2
    · rename_i h2
      split at h0
      · cases h0
      · rename_i h3
        split at h0
        · cases h0
        · rename_i h4
          split at h0
          · cases h0
          · rename_i h5
            refine ⟨by simpa using h2, h3, by omega, by omega, ?_⟩
            cases hs : stood p l n with
            | some s => exact ⟨s, rfl⟩
            | none => rw [hs] at h; cases h
theorem changed_up {p : ByteArray} {l : List En} {n cell : Int} (hR : IsRun l) (h : (atOf p l n).2 = 0) (h0 : 0 ≤ cell) (h1 : cell ≤ 15) : changedOf p l n cell = upwards p l cell.toNat (n - firstN l).toNat := by
  obtain ⟨hc, hne, h2, h3, s, hs⟩ := atOf_ok h
  have hm := (walk_meets (p := p) hc hR hne (n - firstN l).toNat).opt
  rw [show firstN l + (((n - firstN l).toNat : Nat) : Int) = n by omega, hs] at hm
  have hk : (walk p l (n - firstN l).toNat).known = true := by
    unfold Pt.opt at hm
    split at hm
    · assumption
    · cases hm
  rw [upwards_is hc hR hne, if_pos hk]
  unfold changedOf
  rw [if_neg (by simp [h]), if_neg (by omega)]
theorem changed_err {p : ByteArray} {l : List En} {n cell : Int} (h : (atOf p l n).2 ≠ 0) : changedOf p l n cell = (0, (atOf p l n).2) := by
  unfold changedOf
  rw [if_pos h]
theorem changed_arg {p : ByteArray} {l : List En} {n cell : Int} (h : (atOf p l n).2 = 0) (hc : cell < 0 ∨ 15 < cell) : changedOf p l n cell = (0, 3) := by
  unfold changedOf
  rw [if_neg (by simp [h]), if_pos hc]
end Hist

theorem hchanged_code (p : ByteArray) (hp : p.size ≤ maxLen) (hg : (Code.chk p).1 = 0) (l : List Hist.En) (v : Value) (n cell : Int) (w0 w : World) (hR : Hist.IsRun l) (hl : l.length < 1000000) (hF : FRow w0 w v l) :
    Calls Tryz.prog 58 #[.string p, v, .int .i64 n, .int .i64 cell] w fun e w' => e = .returned (.tuple #[.int .i64 (Hist.changedOf p l n cell).1, .int .i64 (Hist.changedOf p l n cell).2]) ∧ Below w.heap.size w w' := by
  by_cases h0 : (Hist.atOf p l n).2 = 0
  · by_cases hc : cell < 0 ∨ 15 < cell
    · rw [Hist.changed_arg h0 hc]
      exact hch_out p hp hg l v n cell 3 w0 w hR hl hF (.inr ⟨h0, by unfold Mach.wi; exact decide_eq_false (by omega), rfl⟩)
    · obtain ⟨_, hne, h2, h3, _⟩ := Hist.atOf_ok h0
      have h4 := Hist.lastTo_le hR
      rw [Hist.changed_up hR h0 (by omega) (by omega)]
      have hF' := hF
      obtain ⟨g, cap, rfl, ho, hb⟩ := hF'
      have hcap : l.length ≤ cap := by
        rcases ho.2 with ⟨hv, _⟩ | ⟨g2, c2, cur, hv, _, _, a1, _⟩
        · simp at hv
        · simp at hv
          omega
      exact hch_in p hp hg l g cap n cell w0 w hR hl hF hcap hne h2 (by omega) h0 (by omega) (by omega) _ _ rfl
  · rw [Hist.changed_err h0]
    exact hch_out p hp hg l v n cell _ w0 w hR hl hF (.inl ⟨rfl, h0⟩)

set_option maxRecDepth 100000 in
set_option maxHeartbeats 4000000 in
theorem changed_api (p t : ByteArray) (hp : p.size ≤ maxLen) (ht : t.size ≤ 1048576) (n cell : Int) (w : World) :
    Calls Tryz.prog 31 #[.string p, .string t, .int .i64 n, .int .i64 cell] w fun e w' => e = .returned (.tuple #[.int .i64 (Hist.changedOf p (Hist.run t) n cell).1, .int .i64 (Hist.changedOf p (Hist.run t) n cell).2]) ∧ Below w.heap.size w w' := by
  have HC := hide (fun w => check_code p w hp)
  by_cases hg : (Code.chk p).1 = 0
  · have HR := hide (run_code t ht)
    have hn := Hist.run_length t
    have HA := fun w0 w v => hide (fun hF => hchanged_code p hp hg (Hist.run t) v n cell w0 w (Hist.run_isRun t) (by omega) hF)
    generalize Hist.changedOf p (Hist.run t) n cell = A at *
    obtain ⟨rm, er⟩ := A
    rw [hg] at HC
    generalize (Code.chk p).2 = c2 at *
    clear hg
    go_enter Tryz.func31, Tryz.ntmps31
    go_wp2_with fail
    refine (unhide HC _).mono ?_
    rintro e w1 ⟨rfl, hw⟩
    obtain rfl := hw.symm
    go_wp2_with fail
    refine (unhide HR _).mono ?_
    rintro e w2 ⟨v, rfl, hF⟩
    have HF := hide hF
    have B2 := hide hF.choose_spec.choose_spec.2.2
    clear hF
    go_wp2_with fail
    refine (unhide (HA _ _ _) (unhide HF)).mono ?_
    rintro e w3 ⟨rfl, hb⟩
    have B3 := hide ((unhide B2).trans (hb.mono (unhide B2).size))
    clear hb
    go_wp2_with fail
    refine bodyPost_ret (v := .tuple #[.int .i64 rm, .int .i64 er]) (by simp [results, Tryz.results31, go_sem]) rfl ⟨rfl, ?_⟩
    exact unhide B3
  · have he : Hist.changedOf p (Hist.run t) n cell = (0, (Code.chk p).1) := by
      rw [Hist.changed_err (by rw [Hist.atOf_chk hg]; exact hg), Hist.atOf_chk hg]
    rw [he]
    have d : ((Code.chk p).1 != 0) = true := by simp [hg]
    generalize (Code.chk p).1 = c1 at *
    generalize (Code.chk p).2 = c2 at *
    clear hg he
    go_enter Tryz.func31, Tryz.ntmps31
    go_wp2_with fail
    refine (unhide HC _).mono ?_
    rintro e w1 ⟨rfl, hw⟩
    obtain rfl := hw.symm
    go_wp2_with fail
    refine bodyPost_ret (v := .tuple #[.int .i64 0, .int .i64 c1]) (by simp [results, Tryz.results31, go_sem]) rfl ⟨rfl, Below.refl _ _⟩
end Go.Proofs.YtcmoffiigpchiabGreat
