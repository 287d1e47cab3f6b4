import Derived.Test.YtcmoffiigpchiaaGreatStepMD
import Derived.Test.YtcmoffiigpchiaaGreatStepRH
import Derived.Test.YtcmoffiigpchiaaGreatNewR
import Derived.Test.YtcmoffiigpchiaaGreatRecW
import Derived.Test.YtcmoffiigpchiaaGreatOneW
import Derived.Deep.RegionHeld3
import Derived.Deep.DeepCutAuto
namespace Go.Proofs.YtcmoffiigpchiaaGreat
open Go.RowKit

/-- A pair: where it lies, and the machine that both are. -/
structure PV where
  pb : Nat
  xb : Nat
  yb : Nat
  gb : Nat
  cap : Nat
  m : RM
structure Lies (w : World) (B : Nat) (p : PV) : Prop where
  pair : Box w p.pb #[.pointer (some ⟨p.xb, 0, none⟩), .pointer (some ⟨p.yb, 0, none⟩)]
  code : Box w p.xb p.m.ccells
  ref : RefAt w p.yb p.gb p.cap p.m
  inv : p.m.Inv
  gpb : B < p.pb
  gxb : B < p.xb
  gyb : B < p.yb
  ggb : B < p.gb
  n1 : p.pb ≠ p.xb
  n2 : p.pb ≠ p.yb
  n3 : p.pb ≠ p.gb
  n4 : p.xb ≠ p.yb
  n5 : p.xb ≠ p.gb
/-- What a step on a pair leaves. -/
def Left (w w' : World) (B : Nat) (p : PV) : Prop :=
  ∃ p' : PV, Lies w' B p' ∧ p'.pb = p.pb ∧ p'.xb = p.xb ∧ p'.yb = p.yb ∧ (p'.gb = p.gb ∨ w.heap.size ≤ p'.gb) ∧ p'.m.all.length ≤ p.m.all.length + 3 ∧ Keeps w w' [p.xb, p.yb, p.gb]

theorem Lies.keeps {w w' : World} {B : Nat} {p : PV} {o : List Nat} (h : Lies w B p) (k : Keeps w w' o) (h1 : p.pb ∉ o) (h2 : p.xb ∉ o) (h3 : p.yb ∉ o) (h4 : p.gb ∉ o) : Lies w' B p :=
  ⟨h.pair.keeps k h1, h.code.keeps k h2, h.ref.keepsK k h3 h4, h.inv, h.gpb, h.gxb, h.gyb, h.ggb, h.n1, h.n2, h.n3, h.n4, h.n5⟩
theorem Lies.next {w w' : World} {B : Nat} {p : PV} (h : Lies w B p) (k : Below w.heap.size w w') : Lies w' B p := h.keeps (keeps_of k []) (by simp) (by simp) (by simp) (by simp)

/-- Both have gone on. -/
theorem Lies.moved {w w1 w2 : World} {B : Nat} {p : PV} {m' : RM} {g' cap' : Nat} (h : Lies w B p) (hB : B < w.heap.size) (c1 : Box w1 p.xb m'.ccells) (k1 : Keeps w w1 [p.xb]) (r2 : RefAt w2 p.yb g' cap' m') (hg : g' = p.gb ∨ w1.heap.size ≤ g') (k2 : Keeps w1 w2 [p.yb, p.gb]) (hi : m'.Inv) (hl : m'.all.length ≤ p.m.all.length + 3) : Left w w2 B p := by
  have s1 := k1.size
  have a1 := h.pair.lt
  have a2 := h.code.lt
  have a3 := h.ref.box.lt
  have a4 := own_lt h.ref.own
  have n1 := h.n1
  have n2 := h.n2
  have n3 := h.n3
  have n4 := h.n4
  have n5 := h.n5
  have g4 := h.ggb
  refine ⟨⟨p.pb, p.xb, p.yb, g', cap', m'⟩, ⟨?_, ?_, r2, hi, h.gpb, h.gxb, h.gyb, ?_, n1, n2, ?_, n4, ?_⟩, rfl, rfl, rfl, ?_, hl, ?_⟩
  · exact (h.pair.keeps k1 (by simpa using n1)).keeps k2 (by simp; omega)
  · exact c1.keeps k2 (by simp; omega)
  · show B < g'
    omega
  · show p.pb ≠ g'
    omega
  · show p.xb ≠ g'
    omega
  · show g' = p.gb ∨ w.heap.size ≤ g'
    omega
  · exact (k1.mono (by simp)).trans (k2.mono (by simp))

/-- The document's Step, whatever the choice. -/
theorem mstep_ref (hsome : ∀ (b g cap : Nat) (m : RM) (c : ChV), RM.Inv m → Mach.Chosen c → m.s.halted = false → m.s.n < 10000 → RM.counts m.p m.s c = true → m.all.length < 8796093022200 → ∀ (w : World), RefAt w b g cap m →
      Calls Tryz.prog 40 #[.pointer (some ⟨b, 0, none⟩), c.val] w fun e w' => e = .returned (.int .i64 0) ∧ ∃ g' cap', RefAt w' b g' cap' (RM.stepped m c) ∧ (g' = g ∨ w.heap.size ≤ g') ∧ Keeps w w' [b, g])
    (b g cap : Nat) (m : RM) (c : ChV) (hi : RM.Inv m) (hsz : m.all.length < 8796093022200) (w : World) (h : RefAt w b g cap m) :
    Calls Tryz.prog 40 #[.pointer (some ⟨b, 0, none⟩), c.val] w fun e w' => e = .returned (.int .i64 (RM.step m c).2) ∧ ∃ g' cap', RefAt w' b g' cap' (RM.step m c).1 ∧ (g' = g ∨ w.heap.size ≤ g') ∧ Keeps w w' [b, g] := by
  unfold RM.step
  by_cases he : RM.stepErr m c = 0
  · rw [if_pos he]
    obtain ⟨hc, hh, hn⟩ := RM.stepErr_zero he
    cases hct : RM.counts m.p m.s c with
    | false => exact mstep_plain b g cap m c hi.ok hc hh hn hct (by omega) w h
    | true => exact hsome b g cap m c hi hc hh hn hct hsz w h
  · rw [if_neg he]
    have hb : ∀ w' : World, Below w.heap.size w w' → ∃ g' cap', RefAt w' b g' cap' m ∧ (g' = g ∨ w.heap.size ≤ g') ∧ Keeps w w' [b, g] := fun w' hb => ⟨g, cap, h.keeps hb, .inl rfl, keeps_of hb _⟩
    cases hc : Mach.chosen c with
    | false =>
      have e : RM.stepErr m c = 3 := by simp [RM.stepErr, hc]
      rw [e]
      refine (mstep_arg b c hc w).mono ?_
      rintro e w' ⟨rfl, hbl⟩
      exact ⟨rfl, hb w' hbl⟩
    | true =>
      have hx : m.s.halted = true ∨ 10000 ≤ m.s.n := by
        rcases Classical.em (m.s.halted = true ∨ 10000 ≤ m.s.n) with hx | hx
        · exact hx
        · exact absurd (by simp [RM.stepErr, hc, hx]) he
      have e : RM.stepErr m c = 5 := by simp [RM.stepErr, hc, hx]
      rw [e]
      refine (mstep_halt b g cap m c hc hx w h).mono ?_
      rintro e w' ⟨rfl, hbl⟩
      exact ⟨rfl, hb w' hbl⟩
theorem RM.step_inv {m : RM} {c : ChV} (hi : RM.Inv m) (hl : m.all.length < 4611686018427387901) : RM.Inv (RM.step m c).1 ∧ (RM.step m c).1.all.length ≤ m.all.length + 3 := by
  unfold RM.step
  by_cases he : RM.stepErr m c = 0
  · rw [if_pos he]
    obtain ⟨hc, hh, hn⟩ := RM.stepErr_zero he
    obtain ⟨a1, a2, a3, a4⟩ := RM.stepped_inv hi hc hn hl
    exact ⟨a1, a4⟩
  · rw [if_neg he]
    exact ⟨hi, Nat.le_add_right _ _⟩
theorem RM.step_bound (m : RM) (c : ChV) : 0 ≤ (RM.step m c).2 ∧ (RM.step m c).2 ≤ 5 := by
  unfold RM.step
  split
  · simp
  · unfold RM.stepErr
    repeat' split
    all_goals simp
end Go.Proofs.YtcmoffiigpchiaaGreat

namespace Go.Proofs.YtcmoffiigpchiaaGreat
open Go.RowKit

/-- The document's Step goes as it should. -/
def RefSteps : Prop := ∀ (b g cap : Nat) (m : RM) (c : ChV), RM.Inv m → m.all.length < 8796093022200 → ∀ (w : World), RefAt w b g cap m →
  Calls Tryz.prog 40 #[.pointer (some ⟨b, 0, none⟩), c.val] w fun e w' => e = .returned (.int .i64 (RM.step m c).2) ∧ ∃ g' cap', RefAt w' b g' cap' (RM.step m c).1 ∧ (g' = g ∨ w.heap.size ≤ g') ∧ Keeps w w' [b, g]

theorem keeps_alloc_pre {w w' : World} {o : Obj} {l : List Nat} (h : Keeps (w.alloc o) w' l) : Keeps w w' l :=
  ((keeps_of ((Below.refl w.heap.size w).alloc (Nat.le_refl _) o) l)).trans h
theorem keeps_drew_pre {w w' : World} {l : List Nat} (h : Keeps w.drew w' l) : Keeps w w' l := ⟨h.os, h.tape, h.output, h.size, h.block⟩
theorem RefAt.drew {w : World} {b g cap : Nat} {m : RM} (h : RefAt w b g cap m) : RefAt w.drew b g cap m := ⟨h.box.drew, own_block h.own rfl, h.ne⟩

set_option maxRecDepth 100000 in
set_option maxHeartbeats 1000000 in
theorem machine_step (RS : RefSteps) (B : Nat) (p : PV) (o : OpV) (hk : o.kind = 5) (hsz : p.m.all.length < 8796093022200) (w : World) (hB : B < w.heap.size) (h : Lies w B p) :
    Calls Tryz.prog 21 #[.pointer (some ⟨p.pb, 0, none⟩), o.val] w fun e w' => e = .returned (.bool true) ∧ Left w w' B p := by
  have HL := hide h
  have hbd := RM.step_bound p.m o.c
  have HI := hide (RM.step_inv (c := o.c) h.inv (by omega))
  have HC := hide (fun W hW => stepC_code p.xb p.m h.inv (by omega) o.c W hW)
  have HY := hide (fun W hW => RS p.yb p.gb p.cap p.m o.c h.inv hsz W hW)
  have P0 := hide h.pair
  have n1 := h.n1
  have n2 := h.n2
  have n3 := h.n3
  have n4 := h.n4
  have n5 := h.n5
  have hxl := h.code.lt
  have hyl := h.ref.box.lt
  have hgl := own_lt h.ref.own
  have hpl := h.pair.lt
  have HF := hide (fun (w1 w2 : World) (g' cap' : Nat) (c1 : Box w1 p.xb (RM.step p.m o.c).1.ccells) (k1 : Keeps w w1 [p.xb]) (r2 : RefAt w2 p.yb g' cap' (RM.step p.m o.c).1) (hg : g' = p.gb ∨ w1.heap.size ≤ g') (k2 : Keeps w1 w2 [p.yb, p.gb]) => h.moved hB c1 k1 r2 hg k2 (unhide HI).1 (unhide HI).2)
  have HX := hide h.code
  have HR := hide h.ref
  clear h
  generalize RM.step p.m o.c = st at *
  obtain ⟨m', er⟩ := st
  unfold OpV.val OpV.cells
  rw [hk]
  generalize hv : (o.c.input, o.c.ticks, o.c.interrupt) = cv at *
  obtain ⟨kind, mm, pp, bb, ss, ⟨input, ticks, interrupt⟩, xx, yy⟩ := o
  clear hv hk
  simp only at hbd HC HY HF ⊢
  obtain ⟨c0, f0, g0⟩ := unhide P0
  go_enter Tryz.func21, Tryz.ntmps21
  have nb1 : ¬ p.pb = w.heap.size := by omega
  have nb2 : ¬ w.heap.size = p.pb := by omega
  go_upto_region 3 with fail
  go_region_held3 (fun w' => w'.cell? ⟨p.pb, 0, none⟩ = some (.pointer (some ⟨p.xb, 0, none⟩)) ∧ w'.cell? ⟨w.heap.size, 13, none⟩ = some (.int .i64 input) ∧ w'.cell? ⟨w.heap.size, 14, none⟩ = some (.int .i64 ticks) ∧ w'.cell? ⟨w.heap.size, 15, none⟩ = some (.bool interrupt)) (first | go_keep | (go_simp; done)) (first | (go_at_call 39; refine (unhide HC _ ((unhide HX).alloc _).drew).mono ?_; rintro e w1 ⟨rfl, h1, k1⟩; have X1 := hide h1; have K1 := hide (keeps_alloc_pre (keeps_drew_pre k1)); have P1 := hide (((unhide P0).alloc _).drew.keeps k1 (by simpa using n1)); have O1 := hide ((Box.new w _ _).drew.keeps k1 (by simp; omega)); have R1 := hide (((unhide HR).alloc _).drew.keepsK k1 (by simp; omega) (by simp; omega)); clear h1 k1; obtain ⟨c1, f1, g1⟩ := unhide P1; obtain ⟨d1, e1, z1⟩ := unhide O1))
  all_goals
    clear c0 f0 g0
    go_upto_region 4 with fail
    go_region_held3 (fun w' => w'.cell? ⟨p.pb, 1, none⟩ = some (.pointer (some ⟨p.yb, 0, none⟩)) ∧ w'.cell? ⟨w.heap.size, 13, none⟩ = some (.int .i64 input) ∧ w'.cell? ⟨w.heap.size, 14, none⟩ = some (.int .i64 ticks) ∧ w'.cell? ⟨w.heap.size, 15, none⟩ = some (.bool interrupt)) (first | go_keep | (go_simp; done)) (first | (go_at_call 40; refine (unhide HY _ (unhide R1).drew).mono ?_; rintro e w2 ⟨rfl, g', cap', r2, hg, k2⟩; have F := hide (unhide HF w1 w2 g' cap' (unhide X1) (unhide K1) r2 hg (keeps_drew_pre k2)); have P2 := hide ((unhide P1).drew.keeps k2 (by simp; omega)); have O2 := hide ((unhide O1).drew.keeps k2 (by simp; omega)); clear r2 hg k2; obtain ⟨c2, f2, g2⟩ := unhide P2; obtain ⟨d2, e2, z2⟩ := unhide O2))
    all_goals
      go_wp2_with (go_at_call 25; refine (num_law _ (by omega) _).mono ?_; rintro e w' ⟨rfl, rfl⟩)
      go_ret
      exact ⟨by simp, unhide F⟩
theorem RM.save_len' (m : RM) : (RM.save m).all.length ≤ m.all.length + 3 := by rw [RM.save_len]; omega

set_option maxRecDepth 100000 in
set_option maxHeartbeats 1000000 in
theorem machine_save (B : Nat) (p : PV) (o : OpV) (hk : o.kind = 6) (hsz : p.m.all.length < 8796093022200) (w : World) (hB : B < w.heap.size) (h : Lies w B p) :
    Calls Tryz.prog 21 #[.pointer (some ⟨p.pb, 0, none⟩), o.val] w fun e w' => e = .returned (.bool true) ∧ Left w w' B p := by
  have HC := hide (fun W hW => save_code p.xb p.m h.inv.ok (fun _ => h.inv.head) W hW)
  have HY := hide (fun W hW => save_ref p.yb p.gb p.cap p.m h.inv.ok (by omega) W hW)
  have P0 := hide h.pair
  have n1 := h.n1
  have n2 := h.n2
  have n3 := h.n3
  have n4 := h.n4
  have n5 := h.n5
  have hxl := h.code.lt
  have hyl := h.ref.box.lt
  have hgl := own_lt h.ref.own
  have hpl := h.pair.lt
  have HF := hide (fun (w1 w2 : World) (g' cap' : Nat) (c1 : Box w1 p.xb (RM.save p.m).ccells) (k1 : Keeps w w1 [p.xb]) (r2 : RefAt w2 p.yb g' cap' (RM.save p.m)) (hg : g' = p.gb ∨ w1.heap.size ≤ g') (k2 : Keeps w1 w2 [p.yb, p.gb]) => h.moved hB c1 k1 r2 hg k2 (RM.save_inv h.inv (by omega)) (RM.save_len' _))
  have HX := hide h.code
  have HR := hide h.ref
  clear h
  generalize RM.save p.m = m' at *
  unfold OpV.val OpV.cells
  rw [hk]
  obtain ⟨c0, f0, g0⟩ := unhide P0
  have nb1 : ¬ p.pb = w.heap.size := by omega
  have nb2 : ¬ w.heap.size = p.pb := by omega
  go_enter Tryz.func21, Tryz.ntmps21
  go_wp2_with fail
  refine (unhide HC _ ((unhide HX).alloc _)).mono ?_
  rintro e w1 ⟨rfl, h1, k1⟩
  have X1 := hide h1
  have K1 := hide (keeps_alloc_pre k1)
  have P1 := hide (((unhide P0).alloc _).keeps k1 (by simpa using n1))
  have R1 := hide (((unhide HR).alloc _).keepsK k1 (by simp; omega) (by simp; omega))
  clear h1 k1 c0 f0 g0
  obtain ⟨c1, f1, g1⟩ := unhide P1
  go_wp2_with fail
  refine (unhide HY _ (unhide R1)).mono ?_
  rintro e w2 ⟨rfl, g', cap', r2, hg, k2⟩
  have F := hide (unhide HF w1 w2 g' cap' (unhide X1) (unhide K1) r2 hg k2)
  clear r2 hg k2
  go_wp2_with fail
  go_ret
  exact ⟨rfl, unhide F⟩

theorem Lies.stays {w w' : World} {B : Nat} {p : PV} (h : Lies w B p) (k : Below w.heap.size w w') : Left w w' B p :=
  ⟨p, h.next k, rfl, rfl, rfl, .inl rfl, Nat.le_add_right _ _, keeps_of k _⟩

set_option maxRecDepth 100000 in
set_option maxHeartbeats 1000000 in
theorem machine_trace (B : Nat) (p : PV) (o : OpV) (hk : o.kind = 8) (w : World) (h : Lies w B p) :
    Calls Tryz.prog 21 #[.pointer (some ⟨p.pb, 0, none⟩), o.val] w fun e w' => e = .returned (.bool true) ∧ Left w w' B p ∧ Below w.heap.size w w' := by
  have HL := hide h
  have HC := hide (fun W hW => trace_code p.xb p.m W hW)
  have HY := hide (fun W hW => trace_ref p.yb p.gb p.cap p.m h.inv.ok W hW)
  have P0 := hide h.pair
  have hpl := h.pair.lt
  have HX := hide h.code
  have HR := hide h.ref
  clear h
  generalize RM.traceOf p.m = tr at *
  unfold OpV.val OpV.cells
  rw [hk]
  obtain ⟨c0, f0, g0⟩ := unhide P0
  have nb1 : ¬ p.pb = w.heap.size := by omega
  have nb2 : ¬ w.heap.size = p.pb := by omega
  go_enter Tryz.func21, Tryz.ntmps21
  go_wp2_with fail
  refine (unhide HC _ ((unhide HX).alloc _)).mono ?_
  rintro e w1 ⟨rfl, rfl⟩
  go_wp2_with fail
  refine (unhide HY _ ((unhide HR).alloc _)).mono ?_
  rintro e w2 ⟨rfl, rfl⟩
  go_wp2_with fail
  go_ret
  have bw : ∀ X : Obj, Below w.heap.size w (w.alloc X) := fun X => (Below.refl w.heap.size w).alloc (Nat.le_refl _) X
  exact ⟨rfl, (unhide HL).stays (bw _), bw _⟩

set_option maxRecDepth 100000 in
set_option maxHeartbeats 1000000 in
theorem machine_state (B : Nat) (p : PV) (o : OpV) (hk : o.kind = 7) (w : World) (h : Lies w B p) :
    Calls Tryz.prog 21 #[.pointer (some ⟨p.pb, 0, none⟩), o.val] w fun e w' => e = .returned (.bool true) ∧ Left w w' B p ∧ Below w.heap.size w w' := by
  have HL := hide h
  have HC := hide (fun W hW => state_code p.xb p.m W hW)
  have HS := hide (same_law p.m.s)
  have P0 := hide h.pair
  have hpl := h.pair.lt
  have hyl := h.ref.box.lt
  have HX := hide h.code
  have hr := h.ref.box
  unfold RM.cells at hr
  have HR := hide hr
  clear h hr
  generalize p.m.p = mp at *
  generalize p.m.room = mr at *
  generalize p.m.period = mpe at *
  generalize p.m.from_ = mf at *
  generalize p.m.last = ml at *
  generalize p.m.all.length = mal at *
  generalize p.m.s = s at *
  obtain ⟨n, pc, regs, cells, clock, handler, back, pending, halted⟩ := s
  unfold OpV.val OpV.cells
  rw [hk]
  obtain ⟨c0, f0, g0⟩ := unhide P0
  have nb1 : ¬ p.pb = w.heap.size := by omega
  have nb2 : ¬ w.heap.size = p.pb := by omega
  go_enter Tryz.func21, Tryz.ntmps21
  go_wp2_with fail
  refine (unhide HC _ ((unhide HX).alloc _)).mono ?_
  rintro e w1 ⟨rfl, hb⟩
  have P1 := hide (((unhide P0).alloc _).next hb)
  have R1 := hide (((unhide HR).alloc _).next hb)
  have L1 := hide (bel_alloc hb)
  have hs1 := hb.size
  clear hb c0 f0 g0
  obtain ⟨c1, f1, g1⟩ := unhide P1
  obtain ⟨d1, e1, z1⟩ := unhide R1
  have nb3 : ¬ p.pb = w1.heap.size := by omega
  have nb4 : ¬ p.yb = w1.heap.size := by omega
  have nb5 : ¬ w1.heap.size = p.pb := by omega
  have nb6 : ¬ w1.heap.size = p.yb := by omega
  go_upto_region 12 with fail
  go_region_held3 (fun w' => w'.cell? ⟨w1.heap.size, 0, none⟩ = some (.int .i64 n) ∧ w'.cell? ⟨w1.heap.size, 1, none⟩ = some (.int .i64 pc) ∧ w'.cell? ⟨w1.heap.size, 2, none⟩ = some (.string regs) ∧ w'.cell? ⟨w1.heap.size, 3, none⟩ = some (.string cells) ∧ w'.cell? ⟨w1.heap.size, 4, none⟩ = some (.int .i64 clock) ∧ w'.cell? ⟨w1.heap.size, 5, none⟩ = some (.int .i64 handler) ∧ w'.cell? ⟨w1.heap.size, 6, none⟩ = some (.int .i64 back) ∧ w'.cell? ⟨w1.heap.size, 7, none⟩ = some (.bool pending) ∧ w'.cell? ⟨w1.heap.size, 8, none⟩ = some (.bool halted) ∧ w'.cell? ⟨p.pb, 1, none⟩ = some (.pointer (some ⟨p.yb, 0, none⟩)) ∧ w'.cell? ⟨p.yb, 3, none⟩ = some (.int .i64 n) ∧ w'.cell? ⟨p.yb, 4, none⟩ = some (.int .i64 pc) ∧ w'.cell? ⟨p.yb, 5, none⟩ = some (.string regs) ∧ w'.cell? ⟨p.yb, 6, none⟩ = some (.string cells) ∧ w'.cell? ⟨p.yb, 7, none⟩ = some (.int .i64 clock) ∧ w'.cell? ⟨p.yb, 8, none⟩ = some (.int .i64 handler) ∧ w'.cell? ⟨p.yb, 9, none⟩ = some (.int .i64 back) ∧ w'.cell? ⟨p.yb, 10, none⟩ = some (.bool pending) ∧ w'.cell? ⟨p.yb, 11, none⟩ = some (.bool halted)) (first | go_keep | (go_simp; done)) (first | (go_at_call 28; refine (unhide HS _).mono ?_; rintro e w2 ⟨rfl, hb⟩; have P2 := hide (((unhide P1).alloc _).drew.next hb); have R2 := hide (((unhide R1).alloc _).drew.next hb); have S2 := hide ((Box.new w1 _ _).drew.next hb); have L2 := hide (bel_then (unhide L1) (bel_alloc (bel_undrew hb))); clear hb; obtain ⟨c2, f2, g2⟩ := unhide P2; obtain ⟨d2, e2, z2⟩ := unhide R2; obtain ⟨s2, u2, v2⟩ := unhide S2))
  all_goals
    go_wp2_with fail
    go_ret
    exact ⟨rfl, (unhide HL).stays (unhide L2), unhide L2⟩
end Go.Proofs.YtcmoffiigpchiaaGreat

namespace Go.Proofs.YtcmoffiigpchiaaGreat
open Go.RowKit

def rowP (P : Nat → PV) (n : Nat) : List Value := (List.range n).map fun i => .pointer (some ⟨(P i).pb, 0, none⟩)
def PV.blocks (p : PV) : List Nat := [p.pb, p.xb, p.yb, p.gb]
theorem rowP_succ (P : Nat → PV) (n : Nat) : rowP P (n + 1) = rowP P n ++ [.pointer (some ⟨(P n).pb, 0, none⟩)] := by
  simp [rowP, List.range_succ]
theorem rowP_congr {P Q : Nat → PV} {n : Nat} (h : ∀ i, i < n → (P i).pb = (Q i).pb) : rowP P n = rowP Q n := by
  unfold rowP
  apply List.map_congr_left
  intro i hi
  rw [h i (by simpa using hi)]
theorem Lies.lt {w : World} {B : Nat} {p : PV} (h : Lies w B p) : ∀ a ∈ p.blocks, a < w.heap.size ∧ B < a := by
  intro a ha
  have h1 := h.pair.lt
  have h2 := h.code.lt
  have h3 := h.ref.box.lt
  have h4 := own_lt h.ref.own
  have g1 := h.gpb
  have g2 := h.gxb
  have g3 := h.gyb
  have g4 := h.ggb
  simp [PV.blocks] at ha
  rcases ha with rfl | rfl | rfl | rfl <;> omega

/-- The machines that a script has made, as they lie. -/
structure Worlds (w : World) (B k : Nat) (v : Value) (n : Nat) (P : Nat → PV) : Prop where
  box : Box w B #[v]
  row : w.ownsRow (B + 1) 40 1 v n (rowP P n)
  lies : ∀ i, i < n → Lies w B (P i)
  apart : ∀ i j, i < n → j < n → i ≠ j → ∀ a, a ∈ (P i).blocks → a ∉ (P j).blocks
  far : ∀ r, v.ownBlock = some r → ∀ i, i < n → r ∉ (P i).blocks
  count : n ≤ k
  len : ∀ i, i < n → (P i).m.all.length ≤ 1 + 3 * k
def WInv (B k : Nat) (w : World) : Prop := ∃ v n P, Worlds w B k v n P

theorem Worlds.more {w : World} {B k : Nat} {v : Value} {n : Nat} {P : Nat → PV} (h : Worlds w B k v n P) : Worlds w B (k + 1) v n P :=
  ⟨h.box, h.row, h.lies, h.apart, h.far, by have := h.count; omega, fun i hi => by have := h.len i hi; omega⟩
theorem row_keeps {w w' : World} {base n : Nat} {e : TypeId} {v : Value} {xs : List Value} {o : List Nat} (h : w.ownsRow base e 1 v n xs) (k : Keeps w w' o) (hr : ∀ r, v.ownBlock = some r → r ∉ o) : w'.ownsRow base e 1 v n xs := by
  have hlt := h.lt
  obtain ⟨hl, hv⟩ := h
  refine ⟨hl, ?_⟩
  rcases hv with hv | ⟨g, cap, cur, hv, h0, hg, h1, h2, h3, h4⟩
  · exact .inl hv
  · subst hv
    have hb := (hlt g rfl).2
    exact .inr ⟨g, cap, cur, rfl, h0, by rw [k.block g hb (hr g rfl)]; exact hg, h1, h2, h3, h4⟩
theorem Worlds.next {w w' : World} {B k : Nat} {v : Value} {n : Nat} {P : Nat → PV} (h : Worlds w B k v n P) (hb : Below w.heap.size w w') : Worlds w' B k v n P :=
  ⟨h.box.next hb, row_keeps h.row (keeps_of hb []) (by simp), fun i hi => (h.lies i hi).next hb, h.apart, h.far, h.count, h.len⟩

theorem below_keeps {w w' : World} {B : Nat} {o : List Nat} (k : Keeps w w' o) (hB : B ≤ w.heap.size) (ho : ∀ a ∈ o, B ≤ a) : Below B w w' :=
  ⟨k.os, k.tape, k.output, k.size, fun i hi => k.block i (by omega) (fun e => by have := ho i e; omega)⟩

/-- One pair has gone on. -/
theorem Worlds.left {w w' : World} {B k : Nat} {v : Value} {n : Nat} {P : Nat → PV} (h : Worlds w B k v n P) {j : Nat} (hj : j < n) (hl : Left w w' B (P j)) : WInv B (k + 1) w' ∧ Below B w w' := by
  obtain ⟨p', l1, e1, e2, e3, e4, e5, kp⟩ := hl
  have hLj := h.lies j hj
  have ltj := hLj.lt
  have hBw := h.box.lt
  have inl : ∀ a ∈ [(P j).xb, (P j).yb, (P j).gb], a ∈ (P j).blocks := by
    intro a ha
    simp at ha
    simp [PV.blocks]
    omega
  have bl' : ∀ a, a ∈ p'.blocks → a ∈ (P j).blocks ∨ w.heap.size ≤ a := by
    intro a ha
    simp [PV.blocks] at ha ⊢
    omega
  refine ⟨⟨v, n, fun i => if i = j then p' else P i, ?_, ?_, ?_, ?_, ?_, ?_, ?_⟩, ?_⟩
  · exact h.box.keeps kp (fun hm => by have := (ltj B (inl B hm)).2; omega)
  · have e : rowP (fun i => if i = j then p' else P i) n = rowP P n := rowP_congr (fun i _ => by
      by_cases hi : i = j
      · subst hi; simp [e1]
      · simp [hi])
    rw [e]
    exact row_keeps h.row kp (fun r hr hm => h.far r hr j hj (inl r hm))
  · intro i hi
    by_cases hij : i = j
    · subst hij; simpa using l1
    · simp only [hij, if_false]
      have ap := h.apart i j hi hj hij
      refine (h.lies i hi).keeps kp ?_ ?_ ?_ ?_
      · exact fun hm => ap _ (by simp [PV.blocks]) (inl _ hm)
      · exact fun hm => ap _ (by simp [PV.blocks]) (inl _ hm)
      · exact fun hm => ap _ (by simp [PV.blocks]) (inl _ hm)
      · exact fun hm => ap _ (by simp [PV.blocks]) (inl _ hm)
  · intro a b ha hb hab x hx hx2
    by_cases h1 : a = j
    · subst h1
      have hb' : ¬ b = a := fun e => hab e.symm
      simp only [if_true] at hx
      simp only [hb', if_false] at hx2
      rcases bl' x hx with hx' | hx'
      · exact h.apart a b ha hb hab x hx' hx2
      · have := ((h.lies b hb).lt x hx2).1; omega
    · simp only [h1, if_false] at hx
      by_cases h2 : b = j
      · subst h2
        simp only [if_true] at hx2
        rcases bl' x hx2 with hx' | hx'
        · exact h.apart a b ha hb hab x hx hx'
        · have := ((h.lies a ha).lt x hx).1; omega
      · simp only [h2, if_false] at hx2
        exact h.apart a b ha hb hab x hx hx2
  · intro r hr i hi hm
    have hrl := (h.row.lt r hr).2
    by_cases hij : i = j
    · subst hij
      simp only [if_true] at hm
      rcases bl' r hm with hx' | hx'
      · exact h.far r hr i hi hx'
      · omega
    · simp only [hij, if_false] at hm
      exact h.far r hr i hi hm
  · have := h.count; omega
  · intro i hi
    by_cases hij : i = j
    · subst hij
      have := h.len i hi
      simp only [if_true]
      omega
    · have := h.len i hi
      simp only [hij, if_false]
      omega
  · exact below_keeps kp (by omega) (fun a ha => by have := (ltj a (inl a ha)).2; omega)

/-- One pair more. -/
theorem Worlds.made {w w1 w2 : World} {B k : Nat} {v v' : Value} {n : Nat} {P : Nat → PV} {pn : PV} (h : Worlds w B k v n P) (hb : Below w.heap.size w w1) (hg : w1.grownBy w2 v.ownBlock)
    (ho : w2.ownsRow (B + 1) 40 1 v' (n + 1) (rowP P n ++ [.pointer (some ⟨pn.pb, 0, none⟩)])) (hv : ∀ r, v'.ownBlock = some r → v.ownBlock = some r ∨ w1.heap.size ≤ r)
    (hl : Lies w1 B pn) (hnew : ∀ a ∈ pn.blocks, w.heap.size ≤ a) (hlen : pn.m.all.length ≤ 1) : WInv B (k + 1) (w2.setCell ⟨B, 0, none⟩ v') ∧ Below B w (w2.setCell ⟨B, 0, none⟩ v') := by
  have h1 := h.next hb
  have hBw := h.box.lt
  have hs1 := hb.size
  have hk : Keeps w1 w2 (v.ownBlock.toList) := ⟨hg.os, hg.tape, hg.output, hg.size, fun i hi hn => hg.block i hi (fun e => hn (by rw [← e]; simp))⟩
  have hrow : ∀ r ∈ v.ownBlock.toList, v.ownBlock = some r := fun r hr => by simpa using hr
  have hk2 : Keeps w1 (w2.setCell ⟨B, 0, none⟩ v') (B :: v.ownBlock.toList) := (hk.mono (by simp; intro a ha; exact .inr ha)).setCell (by simp) _
  have hfarp : ∀ r, v.ownBlock = some r → r ∉ pn.blocks := fun r hr hm => by
    have := (h.row.lt r hr).2
    have := hnew r hm
    omega
  have stay : ∀ p : PV, Lies w1 B p → (∀ r, v.ownBlock = some r → r ∉ p.blocks) → Lies (w2.setCell ⟨B, 0, none⟩ v') B p := by
    intro p lp hr
    have lt := lp.lt
    have no : ∀ a ∈ p.blocks, a ∉ B :: v.ownBlock.toList := by
      intro a ha hm
      simp only [List.mem_cons] at hm
      rcases hm with hm | hm
      · have := (lt a ha).2; omega
      · exact hr a (hrow a hm) ha
    exact lp.keeps hk2 (no _ (by simp [PV.blocks])) (no _ (by simp [PV.blocks])) (no _ (by simp [PV.blocks])) (no _ (by simp [PV.blocks]))
  refine ⟨⟨v', n + 1, fun i => if i = n then pn else P i, ?_, ?_, ?_, ?_, ?_, ?_, ?_⟩, ?_⟩
  · have b2 : Box w2 B #[v] := h1.box.keeps hk (fun hm => by have := (h.row.lt B (hrow B hm)).1; omega)
    have := b2.set 0 v' (by simp)
    simpa using this
  · have e : rowP (fun i => if i = n then pn else P i) (n + 1) = rowP P n ++ [.pointer (some ⟨pn.pb, 0, none⟩)] := by
      rw [rowP_succ]
      congr 1
      · exact rowP_congr (fun i hi => by simp [show ¬ i = n by omega])
      · simp
    rw [e]
    refine row_keeps ho ((Keeps.refl w2 [B]).setCell (by simp) v') (fun r hr hm => ?_)
    have := (ho.lt r hr).1
    simp at hm
    omega
  · intro i hi
    by_cases hin : i = n
    · subst hin
      simp only [if_true]
      exact stay pn hl hfarp
    · simp only [hin, if_false]
      exact stay _ (h1.lies i (by omega)) (fun r hr => h.far r hr i (by omega))
  · intro a b ha hb' hab x hx hx2
    by_cases h1' : a = n
    · subst h1'
      have hb2 : ¬ b = a := fun e => hab e.symm
      simp only [if_true] at hx
      simp only [hb2, if_false] at hx2
      have := hnew x hx
      have := ((h.lies b (by omega)).lt x hx2).1
      omega
    · simp only [h1', if_false] at hx
      by_cases h2 : b = n
      · subst h2
        simp only [if_true] at hx2
        have := hnew x hx2
        have := ((h.lies a (by omega)).lt x hx).1
        omega
      · simp only [h2, if_false] at hx2
        exact h.apart a b (by omega) (by omega) hab x hx hx2
  · intro r hr i hi hm
    by_cases hin : i = n
    · subst hin
      simp only [if_true] at hm
      rcases hv r hr with hr' | hr'
      · exact hfarp r hr' hm
      · have := (hl.lt r hm).1; omega
    · simp only [hin, if_false] at hm
      rcases hv r hr with hr' | hr'
      · exact h.far r hr' i (by omega) hm
      · have := ((h.lies i (by omega)).lt r hm).1; omega
  · have := h.count; omega
  · intro i hi
    by_cases hin : i = n
    · subst hin; simp only [if_true]; omega
    · have := h.len i (by omega)
      simp only [hin, if_false]
      omega
  · have k2 := below_keeps hk2 (B := B) (by omega) (fun a ha => by
      simp only [List.mem_cons] at ha
      rcases ha with ha | ha
      · omega
      · have := (h.row.lt a (hrow a ha)).1; omega)
    exact (hb.mono (by omega)).trans k2

theorem winv_start (w : World) (t : TypeId) : WInv w.heap.size 0 (w.alloc (.cells #[.slice none 0 0] t)) :=
  ⟨.slice none 0 0, 0, fun _ => ⟨0, 0, 0, 0, 0, RM.bare ⟨#[]⟩ 0 0⟩, Box.new w _ _, World.ownsRow_nil _ _ _ _, fun i hi => absurd hi (by omega), fun i j hi => absurd hi (by omega), fun r hr => by simp [Value.ownBlock] at hr, Nat.le_refl _, fun i hi => absurd hi (by omega)⟩
theorem winv_more {B k : Nat} {w : World} (h : WInv B k w) : WInv B (k + 1) w := by
  obtain ⟨v, n, P, hw⟩ := h
  exact ⟨v, n, P, hw.more⟩
end Go.Proofs.YtcmoffiigpchiaaGreat

namespace Go.Proofs.YtcmoffiigpchiaaGreat
open Go.RowKit

def pickN (k : Int) (n : Nat) : Nat := if k < 0 ∨ (n : Int) ≤ k then 0 else k.toNat
theorem pickN_lt (k : Int) {n : Nat} (h : 0 < n) : pickN k n < n := by
  unfold pickN
  split <;> omega
set_option maxHeartbeats 400000 in
theorem pick_law (k : Int) (n : Nat) (w : World) : Calls Tryz.prog 20 #[.int .i64 k, .int .i64 (n : Int)] w fun e w' => e = .returned (.int .i64 (pickN k n : Int)) ∧ w' = w := by
  by_cases h1 : k < 0
  · have e : pickN k n = 0 := by simp [pickN, h1]
    rw [e]
    clear e
    go_enter Tryz.func20, Tryz.ntmps20
    go_wp2
    go_ret
    exact ⟨rfl, rfl⟩
  · by_cases h2 : (n : Int) ≤ k
    · have e : pickN k n = 0 := by simp [pickN, h2]
      rw [e]
      clear e
      go_enter Tryz.func20, Tryz.ntmps20
      go_wp2
      go_ret
      exact ⟨rfl, rfl⟩
    · have e : (pickN k n : Int) = k := by simp [pickN, h1, h2]; omega
      rw [e]
      clear e
      go_enter Tryz.func20, Tryz.ntmps20
      go_wp2
      go_ret
      exact ⟨rfl, rfl⟩

theorem machine_any (RS : RefSteps) (B : Nat) (p : PV) (o : OpV) (h5 : 5 ≤ o.kind) (h8 : o.kind ≤ 8) (hsz : p.m.all.length < 8796093022200) (w : World) (hB : B < w.heap.size) (h : Lies w B p) :
    Calls Tryz.prog 21 #[.pointer (some ⟨p.pb, 0, none⟩), o.val] w fun e w' => e = .returned (.bool true) ∧ Left w w' B p := by
  have hk : o.kind = 5 ∨ o.kind = 6 ∨ o.kind = 7 ∨ o.kind = 8 := by omega
  rcases hk with hk | hk | hk | hk
  · exact machine_step RS B p o hk hsz w hB h
  · exact machine_save B p o hk hsz w hB h
  · refine (machine_state B p o hk w h).mono ?_
    rintro e w' ⟨h1, h2, -⟩
    exact ⟨h1, h2⟩
  · refine (machine_trace B p o hk w h).mono ?_
    rintro e w' ⟨h1, h2, -⟩
    exact ⟨h1, h2⟩

theorem Worlds.keeps0 {w w' : World} {B k : Nat} {v : Value} {n : Nat} {P : Nat → PV} (h : Worlds w B k v n P) (hb : Keeps w w' []) : Worlds w' B k v n P :=
  ⟨h.box.keeps hb (by simp), row_keeps h.row hb (by simp), fun i hi => (h.lies i hi).keeps hb (by simp) (by simp) (by simp) (by simp), h.apart, h.far, h.count, h.len⟩
theorem keeps_drewN (w : World) (n : Nat) : Keeps w (w.drewN n) [] := (Keeps.refl w []).drewN n
theorem keeps_drew (w : World) : Keeps w w.drew [] := ⟨rfl, rfl, rfl, Nat.le_refl _, fun _ _ _ => rfl⟩
theorem keeps_all (w : World) (o : Obj) : Keeps w (w.alloc o) [] := keeps_of ((Below.refl _ _).alloc (Nat.le_refl _) o) []
theorem below_of0 {w w' : World} {B : Nat} (h : Keeps w w' []) (hB : B ≤ w.heap.size) : Below B w w' := below_keeps h hB (by simp)

set_option maxRecDepth 100000 in
set_option maxHeartbeats 1000000 in
theorem step_bare (B k : Nat) (o : OpV) (h5 : 5 ≤ o.kind) (h8 : o.kind ≤ 8) (v : Value) (P : Nat → PV) (a : Option Addr) (cap : Nat) (hv : v = .slice a 0 cap) (wr : World) (h : Worlds wr B k v 0 P) :
    Calls Tryz.prog 11 #[.pointer (some ⟨B, 0, none⟩), o.val] wr fun e w' => e = .returned (.bool true) ∧ WInv B (k + 1) w' ∧ Below B wr w' := by
  have HW := hide h
  have hB := h.box.lt
  obtain ⟨c0, f0, g0⟩ := h.box
  subst hv
  clear h
  have nb1 : ¬ B = wr.heap.size := by omega
  have nb2 : ¬ wr.heap.size = B := by omega
  have hk : o.kind = 5 ∨ o.kind = 6 ∨ o.kind = 7 ∨ o.kind = 8 := by omega
  have fin : ∀ X : Obj, WInv B (k + 1) (wr.alloc X) ∧ Below B wr (wr.alloc X) := fun X => ⟨⟨_, _, _, ((unhide HW).keeps0 (keeps_all wr X)).more⟩, below_of0 (keeps_all wr X) (by omega)⟩
  have FIN := hide fin
  clear fin
  unfold OpV.val OpV.cells
  rcases hk with hk | hk | hk | hk
  all_goals
    rw [hk]
    go_enter Tryz.func11, Tryz.ntmps11
    go_wp2_with fail
    go_ret
    exact ⟨rfl, unhide FIN _⟩

end Go.Proofs.YtcmoffiigpchiaaGreat
