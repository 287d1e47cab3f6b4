import Derived.Test.YtcmoffiigpchiaaKeepH
namespace Go.Proofs.Ytcmoffiigpchiaa
open Go.RowKit
namespace Keep

theorem keeps_three {a b' c : World} {fb xb r r' : Nat} (h : Keeps a b' [fb, xb, r]) (k : Keeps b' c [fb, xb, r']) (hr : r' = r ∨ a.heap.size ≤ r') : Keeps a c [fb, xb, r] :=
  ⟨k.os.trans h.os, k.tape.trans h.tape, k.output.trans h.output, Nat.le_trans h.size k.size, fun i hi hn => by
    rw [k.block i (Nat.lt_of_lt_of_le hi h.size) (fun e => by
      simp at e hn
      omega)]
    exact h.block i hi hn⟩

theorem keeps9' (w : World) (x : Nat) (v0 v1 v2 v3 v4 v5 v6 v7 v8 : Value) : Keeps w (((((((((w.setCell ⟨x, 0, none⟩ v0).setCell ⟨x, 1, none⟩ v1).setCell ⟨x, 2, none⟩ v2).setCell ⟨x, 3, none⟩ v3).setCell ⟨x, 4, none⟩ v4).setCell ⟨x, 5, none⟩ v5).setCell ⟨x, 6, none⟩ v6).setCell ⟨x, 7, none⟩ v7).setCell ⟨x, 8, none⟩ v8) [x] := by
  repeat (refine Keeps.setCell ?_ (by simp) _)
  exact Keeps.refl _ _
theorem keeps_undrew {w w' : World} {l : List Nat} (h : Keeps w.drew w' l) : Keeps w w' l := ⟨h.os, h.tape, h.output, h.size, h.block⟩
theorem bel_drew {k : Nat} {a w : World} (h : Below k a w) : Below k a w.drew := ⟨h.os, h.tape, h.output, h.size, h.block⟩
theorem second_new (w : World) (X : Obj) (Y : Array Value) (t : TypeId) : Box ((w.alloc X).alloc (.cells Y t)).drew (w.heap.size + 1) Y := by
  have h := (Box.new (w.alloc X) Y t).drew
  have e : (w.alloc X).heap.size = w.heap.size + 1 := by simp
  rwa [e] at h

theorem news_nine (w : World) (s : StV) (t : TypeId) : ∀ j u, (stC s)[j]? = some u → (w.alloc (.cells #[.int .i64 s.n, .int .i64 s.pc, .string s.regs, .string s.cells, .int .i64 s.clock, .int .i64 s.handler, .int .i64 s.back, .bool s.pending, .bool s.halted] t)).cell? ((⟨w.heap.size, 0, none⟩ : Addr).add j) = some u := by
  intro j u hu
  rw [Addr.add_mid, Nat.zero_add, World.cell?_alloc_mark]
  simpa [stC] using hu
theorem one_nine (s : StV) : ∀ u ∈ stC s, u.oneCell' = true := by
  intro u hu
  simp [stC] at hu
  rcases hu with rfl | rfl | rfl | rfl | rfl | rfl | rfl | rfl | rfl <;> rfl
theorem FilmAt.drew {w : World} {B fb xb r cap : Nat} {p : ByteArray} {m : RM} {l : List StV} {sv : Int} (h : FilmAt w B fb xb r cap p m l sv) : FilmAt w.drew B fb xb r cap p m l sv :=
  h.keeps (o := []) ⟨rfl, rfl, rfl, Nat.le_refl _, fun _ _ _ => rfl⟩ (by simp) (by simp) (by simp)
/-- A state more. -/
theorem FilmAt.app {w w3 : World} {X : Obj} {B fb xb r cap g cap' : Nat} {p : ByteArray} {m : RM} {l : List StV} {sv : Int} {t : StV} (h : FilmAt w B fb xb r cap p m l sv)
    (ho : w3.ownsRow B 42 9 (.slice (some ⟨g, 0, none⟩) (l.length + 1) cap') (l.length + 1) (rowS l ++ stC t)) (hg : (w.alloc X).grownBy w3 (some r)) (ha : some r = some g ∨ g = (w.alloc X).heap.size) :
    FilmAt (w3.setCell ⟨fb, 2, none⟩ (.slice (some ⟨g, 0, none⟩) (l.length + 1) cap')) B fb xb g cap' p m (l ++ [t]) sv ∧ (g = r ∨ w.heap.size ≤ g) ∧ Keeps w (w3.setCell ⟨fb, 2, none⟩ (.slice (some ⟨g, 0, none⟩) (l.length + 1) cap')) [fb, xb, r] := by
  have hX : (w.alloc X).heap.size = w.heap.size + 1 := by simp
  have l1 := h.box.lt
  have l2 := h.code.lt
  have n1 := h.n1
  have n2 := h.n2
  have n3 := h.n3
  have k0 : Keeps w (w.alloc X) [] := keeps_of ((Below.refl _ _).alloc (Nat.le_refl _) X) []
  have k1 : Keeps (w.alloc X) w3 [r] := ⟨hg.os, hg.tape, hg.output, hg.size, fun i hi hn => hg.block i hi (fun e => hn (by cases e; simp))⟩
  have k2 : Keeps w w3 [r] := (k0.mono (by simp)).trans k1
  have hg' : g = r ∨ g = w.heap.size + 1 := by
    rcases ha with ha | ha
    · left; cases ha; rfl
    · right; rw [ha, hX]
  have k3 : Keeps w3 (w3.setCell ⟨fb, 2, none⟩ (.slice (some ⟨g, 0, none⟩) (l.length + 1) cap')) [fb] := (Keeps.refl w3 [fb]).setCell (by simp) _
  have el : (l ++ [t]).length = l.length + 1 := by simp
  refine ⟨⟨?_, (h.code.keeps k2 (by simpa using n3)).keeps k3 (by simp; omega), ?_, h.inv, h.pm, h.n1, by omega, by omega, h.gf, h.gx⟩, by omega, ?_⟩
  · have b3 := (h.box.keeps k2 (by simpa using n2)).set 2 (.slice (some ⟨g, 0, none⟩) (l.length + 1) cap') (by simp)
    rw [el]
    simpa using b3
  · rw [el, rowS_snoc]
    have hlt := (ho.lt g rfl).2
    obtain ⟨hl, hv⟩ := ho
    refine ⟨hl, ?_⟩
    rcases hv with hv | ⟨g2, c2, cur, hv, h0, hgg, a1, a2, a3, a4⟩
    · exact .inl hv
    · simp at hv
      obtain ⟨rfl, rfl⟩ := hv
      exact .inr ⟨g, cap', cur, rfl, h0, by rw [k3.block g hlt (by simp; omega)]; exact hgg, a1, a2, a3, a4⟩
  · exact (k2.mono (by simp)).trans (k3.mono (by simp))

set_option maxRecDepth 100000 in
set_option maxHeartbeats 2000000 in
theorem goes_k {R Q : Int} (B fb xb r cap : Nat) (p : ByteArray) (m : RM) (a : Option Addr) (len capc : Nat) (hlen : len < 1000000000000000000) (V : Nat → Int) (save : Int) (hsv : i64ok save) (w : World)
    (hI : len = 0 ∨ ∃ blk off, a = some ⟨blk, off, none⟩ ∧ blk < B ∧ ∀ i, i < len → w.cell? ⟨blk, off + i, none⟩ = some (.int .i64 (V i)) ∧ i64ok (V i))
    (hF : FilmAt w B fb xb r cap p m [Frame.begin] 0) (hR : Runs R Q p V (2 + kp save 60) 0 m [Frame.begin] 0) :
    Calls Try.prog 10 #[.pointer (some ⟨fb, 0, none⟩), .slice a len capc, .int .i64 save] w fun e w' => e = .returned (.bool true) ∧ Went R Q w w' B fb xb r p V (2 + kp save 60) len := by
  have HP := hide (pick_60 save hsv)
  have hk60 := kp_lt save (n := 60) (by decide)
  have HI := hide hI
  have W0 : Hid (Went R Q w w B fb xb r p V (2 + kp save 60) 0) := hide ⟨m, r, cap, [Frame.begin], 0, hF, hR, .inl rfl, Keeps.refl _ _, by omega, by omega⟩
  have hgf := hF.gf
  have hgx := hF.gx
  have hrl := (hF.row.lt r rfl)
  have hfl := hF.box.lt
  have hxl := hF.code.lt
  clear hF hR hI
  generalize kp save 60 = k at *
  go_enter Try.func10, Try.ntmps10
  go_wp2_with fail
  refine (unhide HP _).mono ?_
  rintro e w' ⟨rfl, hw⟩
  obtain rfl := hw.symm
  go_wp2_with fail
  go_loopw [8] (fun i wr => ∃ q : Nat, q ≤ len ∧ i = .int .i64 q ∧ Went R Q w wr B fb xb r p V (2 + k) q) (fun i _ => len - (intOf i).toNat)
  case atStart => exact ⟨0, Nat.zero_le _, rfl, unhide W0⟩
  case round =>
    obtain ⟨q, hq, rfl, m, r', cap', l, sv, hF, hR, hr', hkp, hs0, hs1⟩ := hrel
    have F1 := hide hF
    have R1 := hide hR
    have K1 := hide hkp
    have hr2 := hide hr'
    have hfl1 := hF.box.lt
    have hxl1 := hF.code.lt
    have nfx := hF.n1
    have nfr := hF.n2
    have nxr := hF.n3
    have hsw := hkp.size
    clear hF hR hkp hr' W0
    by_cases hlt : q < len
    · obtain ⟨c0, f0, g0⟩ := (unhide F1).box
      by_cases hsave : q % (2 + k) = 2 + k - 1
      · have d1 : ((q : Int) % (2 + (k : Int)) == 2 + (k : Int) - 1) = true := by
          have : (q : Int) % (2 + (k : Int)) = 2 + (k : Int) - 1 := by
            have e := Int.natCast_emod q (2 + k)
            rw [hsave, show ((2 + k : Nat) : Int) = 2 + (k : Int) by omega, show ((2 + k - 1 : Nat) : Int) = 2 + (k : Int) - 1 by omega] at e
            exact e.symm
          rw [this]
          simp
        have d2 : ((q : Int) % (2 + (k : Int)) == 1 + (k : Int)) = true := by
          have e : 2 + (k : Int) - 1 = 1 + (k : Int) := by omega
          rw [e] at d1
          exact d1
        have HSV := hide (fun W hW => save_code xb m (unhide R1).inv.ok (fun _ => (unhide R1).inv.head) W hW)
        have HR2 := hide ((unhide R1).save hsave (by omega))
        generalize RM.save m = m' at *
        have HSA := hide hsave
        clear hsave
        go_wp2_with fail
        refine (unhide HSV _ (unhide F1).code).mono ?_
        rintro e w1 ⟨rfl, h1, k1⟩
        have F2 := hide ((unhide F1).gone h1 k1 (unhide HR2).inv (unhide HR2).pm)
        have K2 := hide (keeps_three (unhide K1) (k1.mono (o' := [fb, xb, r']) (by simp)) (unhide hr2))
        clear h1 k1 c0 f0 g0
        obtain ⟨c0, f0, g0⟩ := (unhide F2).box
        have hwv : wrap64 (sv + 1) = sv + 1 := by unfold wrap64; omega
        go_wp2_with fail
        go_roundw
        case rel => exact ⟨q + 1, by omega, by go_num, m', r', cap', l, sv + 1, (unhide F2).saved (sv + 1), unhide HR2, unhide hr2, (unhide K2).setCell (by simp) _, by omega, by omega⟩
        case measure => simp [intOf]; omega
      · have d1 : ((q : Int) % (2 + (k : Int)) == 2 + (k : Int) - 1) = false := by
          have : ¬ (q : Int) % (2 + (k : Int)) = 2 + (k : Int) - 1 := by
            intro h
            have e := Int.natCast_emod q (2 + k)
            rw [show ((2 + k : Nat) : Int) = 2 + (k : Int) by omega, h] at e
            omega
          simpa using this
        have d2 : ((q : Int) % (2 + (k : Int)) == 1 + (k : Int)) = false := by
          have e : 2 + (k : Int) - 1 = 1 + (k : Int) := by omega
          rw [e] at d1
          exact d1
        obtain ⟨blk, off, rfl, hblk, hcell, hok⟩ : ∃ blk off, a = some ⟨blk, off, none⟩ ∧ blk < B ∧ wr.cell? ⟨blk, off + q, none⟩ = some (.int .i64 (V q)) ∧ i64ok (V q) := by
          rcases unhide HI with h | ⟨blk, off, rfl, hl, hc⟩
          · omega
          · refine ⟨blk, off, rfl, hl, ?_, (hc q hlt).2⟩
            rw [World.cell?_of_block (w := w) ((unhide K1).block blk (by omega) (by simp; omega))]
            exact (hc q hlt).1
        have HCH := hide (choice_k (V q) hok)
        have hll : 0 < l.length := by
          have := (unhide R1).list
          have e := FL_len (p := p) (V := V) (n := 2 + k) (i := q)
          rw [← this] at e
          have h1 := (unhide R1).inv.ok.legal.n0
          rw [(unhide R1).state] at h1
          omega
        have hlu : l.length ≤ 10001 := by
          have := (unhide R1).list
          have e := FL_len (p := p) (V := V) (n := 2 + k) (i := q)
          rw [← this] at e
          have h1 := (unhide R1).inv.ok.legal.n1
          rw [(unhide R1).state] at h1
          omega
        have HSA := hide hsave
        clear hsave hok
        go_upto_region 9 with (go_at_call 26; refine (unhide HCH _).mono ?_; rintro e w1 ⟨rfl, hb⟩; have F2 := hide ((unhide F1).next hb); have B2 := hide hb; clear hb)
        have HLS : Hid (∀ W, FilmAt W B fb xb r' cap' p m l sv → W.rangeAt r' ((l.length - 1) * 9) (stC (lastOf l))) := hide (fun W hW => hW.last hll)
        obtain ⟨ls, hls⟩ : ∃ ls, ls = lastOf l := ⟨_, rfl⟩
        rw [← hls] at HLS
        have HLL := hide hls
        clear hls
        obtain ⟨n0, pc0, regs0, cells0, clock0, handler0, back0, pending0, halted0⟩ := ls
        obtain ⟨c2, f2, g2⟩ := (unhide F2).box
        have hrng := unhide HLS w1 (unhide F2)
        have hr3 := ((unhide F2).row.lt r' rfl).2
        have hz1 := (unhide B2).size
        have l0 : w1.cell? ⟨r', (l.length - 1) * 9, none⟩ = some (.int .i64 n0) := hrng 0 _ rfl
        have l1 := hrng 1 _ rfl
        have l2 := hrng 2 _ rfl
        have l3 := hrng 3 _ rfl
        have l4 := hrng 4 _ rfl
        have l5 := hrng 5 _ rfl
        have l6 := hrng 6 _ rfl
        have l7 := hrng 7 _ rfl
        have l8 := hrng 8 _ rfl
        clear hrng
        have hlw : IntKind.i64.wrap ((l.length : Int) - 1) = ((l.length - 1 : Nat) : Int) := by
          have := i64_wrap_nat (l.length - 1) (by omega)
          rwa [show ((l.length - 1 : Nat) : Int) = (l.length : Int) - 1 by omega] at this ⊢
        have nb1 : ¬ fb = w1.heap.size := by omega
        have nb2 : ¬ w1.heap.size = fb := by omega
        have nb3 : ¬ r' = w1.heap.size := by omega
        have nb4 : ¬ w1.heap.size = r' := by omega
        have nb5 : ¬ fb = w1.heap.size + 1 := by omega
        have nb6 : ¬ w1.heap.size + 1 = fb := by omega
        have nb7 : ¬ r' = w1.heap.size + 1 := by omega
        have nb8 : ¬ w1.heap.size + 1 = r' := by omega
        have hl1 : l.length - 1 < l.length := by omega
        generalize hLd : l.length - 1 = ld at *
        have HLd := hide hLd
        clear hLd
        have hld1 : (ld : Int) < (l.length : Int) := by omega
        go_cut [10] from 17 to 122 (fun x wx => x = .pointer (some ⟨w1.heap.size + 1, 0, none⟩) ∧ Box wx (w1.heap.size + 1) #[.int .i64 n0, .int .i64 pc0, .string regs0, .string cells0, .int .i64 clock0, .int .i64 handler0, .int .i64 back0, .bool pending0, .bool halted0] ∧ Box wx w1.heap.size #[.int .i64 (chOf (V q)).input, .int .i64 (chOf (V q)).ticks, .bool (chOf (V q)).interrupt] ∧ FilmAt wx B fb xb r' cap' p m l sv ∧ Below w1.heap.size w1 wx)
        case first =>
          go_region_held3 (fun w' => w'.cell? ⟨fb, 2, none⟩ = some (.slice (some ⟨r', 0, none⟩) l.length cap') ∧ w'.cell? ⟨r', ld * 9, none⟩ = some (.int .i64 n0) ∧ w'.cell? ⟨r', ld * 9 + 1, none⟩ = some (.int .i64 pc0) ∧ w'.cell? ⟨r', ld * 9 + 2, none⟩ = some (.string regs0) ∧ w'.cell? ⟨r', ld * 9 + 3, none⟩ = some (.string cells0) ∧ w'.cell? ⟨r', ld * 9 + 4, none⟩ = some (.int .i64 clock0) ∧ w'.cell? ⟨r', ld * 9 + 5, none⟩ = some (.int .i64 handler0) ∧ w'.cell? ⟨r', ld * 9 + 6, none⟩ = some (.int .i64 back0) ∧ w'.cell? ⟨r', ld * 9 + 7, none⟩ = some (.bool pending0) ∧ w'.cell? ⟨r', ld * 9 + 8, none⟩ = some (.bool halted0)) (first | go_keep | (go_simp; done)) (fail)
          all_goals
            go_wp2_with fail
            go_meet
            case rel => exact ⟨rfl, second_new w1 _ _ _, ((Box.new w1 _ _).alloc _).drew, (unhide F2).next (bel_drew bel2), bel_drew bel2⟩
        case rest =>
          obtain ⟨rfl, x1, y1, g1, b1⟩ := hcut
          have S3 := hide x1
          have C3 := hide y1
          have F3 := hide g1
          have B3 := hide (bel_then (unhide B2) b1)
          have hz3 := x1.lt
          clear x1 y1 g1 b1 l0 l1 l2 l3 l4 l5 l6 l7 l8 c2 f2 g2 nb1 nb2 nb3 nb4 nb5 nb6 nb7 nb8
          have hc1 := chOf_chosen (V q)
          have hpz := (unhide R1).inv.ok.good.short
          rw [(unhide R1).pm] at hpz
          have HST := hide (step_api p (lastOf l) (chOf (V q)) (by unfold maxLen; omega))
          rw [← unhide HLL] at HST
          have HMS := hide (fun W hW => stepC_code xb m (unhide R1).inv (by have := (unhide R1).len; omega) (chOf (V q)) W hW)
          obtain ⟨t, er, hte⟩ : ∃ t er, Mach.step p ⟨n0, pc0, regs0, cells0, clock0, handler0, back0, pending0, halted0⟩ (chOf (V q)) = (t, er) := ⟨_, _, rfl⟩
          rw [hte] at HST
          obtain ⟨m2, gg, hmg⟩ : ∃ m2 gg, RM.step m (chOf (V q)) = (m2, gg) := ⟨_, _, rfl⟩
          rw [hmg] at HMS
          simp only at HMS
          have HGO : Hid (¬ (halted0 = true ∨ 10000 ≤ n0) → Runs R Q p V (2 + k) (q + 1) m2 (l ++ [t]) sv ∧ gg = 0 ∧ er = 0 ∧ Mach.Legal t ∧ t.n = n0 + 1) := hide (fun hh => by
            have hls := unhide HLL
            obtain ⟨a1, a2, a3, a4⟩ := (unhide R1).step (unhide HSA) (by rw [← hls]; exact hh) (by omega)
            rw [← hls, hte] at a3
            rw [← hls] at a1 a4
            rw [hmg] at a1 a2
            obtain ⟨rfl, rfl⟩ := Prod.mk.inj a3
            exact ⟨a1, a2, rfl, a4, Mach.next_n _ _ _⟩)
          have HSP : Hid ((halted0 = true ∨ 10000 ≤ n0) → gg = 5 ∧ m2 = m ∧ er = 5 ∧ ∀ j, q ≤ j → l = FL p V (2 + k) j) := hide (fun hh => by
            have hls := unhide HLL
            obtain ⟨a1, a2, a3, a4⟩ := (unhide R1).stop (by rw [← hls]; exact hh)
            rw [← hls, hte] at a3
            rw [hmg] at a1 a2
            exact ⟨a1, a2, (Prod.mk.inj a3).2, a4⟩)
          have HM2 : Hid (m2.Inv ∧ m2.p = p) := hide (by
            by_cases hh : halted0 = true ∨ 10000 ≤ n0
            · obtain ⟨_, e, _⟩ := unhide HSP hh
              rw [e]
              exact ⟨(unhide R1).inv, (unhide R1).pm⟩
            · obtain ⟨a, _⟩ := unhide HGO hh
              exact ⟨a.inv, a.pm⟩)
          clear hte hmg
          generalize hcv : chOf (V q) = cv at *
          have HCV := hide hcv
          clear hcv
          obtain ⟨n1, pc1, regs1, cells1, clock1, handler1, back1, pending1, halted1⟩ := t
          obtain ⟨input, ticks, interrupt⟩ := cv
          simp only at HST
          obtain ⟨c2, f2, g2⟩ := (unhide F3).box
          obtain ⟨cs, fs, gs⟩ := unhide S3
          obtain ⟨cc, fc, gc⟩ := unhide C3
          clear g2 gs gc
          go_upto_region 10 with fail
          have nb1 : ¬ fb = wc.heap.size := by have := (unhide F3).box.lt; omega
          have nb2 : ¬ wc.heap.size = fb := by omega
          have nb3 : ¬ w1.heap.size = wc.heap.size := by omega
          have nb4 : ¬ wc.heap.size = w1.heap.size := by omega
          have nb5 : ¬ w1.heap.size + 1 = wc.heap.size := by omega
          have nb6 : ¬ wc.heap.size = w1.heap.size + 1 := by omega
          go_cut [11, 12] from 17 to 122 (fun x11 x12 wx => x12 = .int .i64 er ∧ ∃ kt, x11 = .pointer (some ⟨kt, 0, none⟩) ∧ w1.heap.size + 1 < kt ∧ Box wx kt #[.int .i64 n1, .int .i64 pc1, .string regs1, .string cells1, .int .i64 clock1, .int .i64 handler1, .int .i64 back1, .bool pending1, .bool halted1] ∧ Box wx (w1.heap.size + 1) #[.int .i64 n0, .int .i64 pc0, .string regs0, .string cells0, .int .i64 clock0, .int .i64 handler0, .int .i64 back0, .bool pending0, .bool halted0] ∧ Box wx w1.heap.size #[.int .i64 input, .int .i64 ticks, .bool interrupt] ∧ FilmAt wx B fb xb r' cap' p m l sv ∧ Below wr.heap.size wr wx)
          case first =>
            go_region_held3 (fun w' => w'.cell? ⟨fb, 0, none⟩ = some (.string p) ∧ w'.cell? ⟨w1.heap.size + 1, 0, none⟩ = some (.int .i64 n0) ∧ w'.cell? ⟨w1.heap.size + 1, 1, none⟩ = some (.int .i64 pc0) ∧ w'.cell? ⟨w1.heap.size + 1, 2, none⟩ = some (.string regs0) ∧ w'.cell? ⟨w1.heap.size + 1, 3, none⟩ = some (.string cells0) ∧ w'.cell? ⟨w1.heap.size + 1, 4, none⟩ = some (.int .i64 clock0) ∧ w'.cell? ⟨w1.heap.size + 1, 5, none⟩ = some (.int .i64 handler0) ∧ w'.cell? ⟨w1.heap.size + 1, 6, none⟩ = some (.int .i64 back0) ∧ w'.cell? ⟨w1.heap.size + 1, 7, none⟩ = some (.bool pending0) ∧ w'.cell? ⟨w1.heap.size + 1, 8, none⟩ = some (.bool halted0) ∧ w'.cell? ⟨w1.heap.size, 0, none⟩ = some (.int .i64 input) ∧ w'.cell? ⟨w1.heap.size, 1, none⟩ = some (.int .i64 ticks) ∧ w'.cell? ⟨w1.heap.size, 2, none⟩ = some (.bool interrupt)) (first | go_keep | (go_simp; done)) (first | (go_at_call 27; refine (unhide HST _).mono ?_; rintro e w2 ⟨rfl, hb⟩; (first | (have L2 : Hid (Below wc.heap.size wc w2) := bel_undrew hb; have T2 := hide True.intro) | (have L2 : Hid (Below wc.heap.size wc w2) := bel_alloc (bel_undrew hb); have T2 := hide ((Box.new wc _ _).drew.next hb); obtain ⟨ct, ft, gt⟩ := unhide T2)); clear hb; have S4 := hide ((unhide S3).next (unhide L2)); have C4 := hide ((unhide C3).next (unhide L2)); have F4 := hide ((unhide F3).next (unhide L2)); obtain ⟨c5, f5, g5⟩ := (unhide F4).box; obtain ⟨c6, f6, g6⟩ := unhide S4; obtain ⟨c7, f7, g7⟩ := unhide C4))
            all_goals
              go_wp2_with fail
              go_meet
              case rel =>
                have hB5 := bel_then (unhide B3) (unhide L2)
                have hB6 := (unhide B3).size
                first | exact ⟨rfl, wc.heap.size, rfl, by omega, nine_box (unhide T2) _ _ _ _ _ _ _ _ _, (unhide S4).off9 (by omega) _ _ _ _ _ _ _ _ _, (unhide C4).off9 (by omega) _ _ _ _ _ _ _ _ _, (unhide F4).keeps (keeps9' _ _ _ _ _ _ _ _ _ _ _) (by simp; omega) (by simp; omega) (by simp; omega), bel_put9 hB5 (by omega) _ _ _ _ _ _ _ _ _⟩ | exact ⟨rfl, w2.heap.size, rfl, by omega, Box.new w2 _ _, (unhide S4).alloc _, (unhide C4).alloc _, (unhide F4).next ((Below.refl _ _).alloc (Nat.le_refl _) _), hB5.alloc hB5.size _⟩
          case rest =>
            obtain ⟨rfl, kt, rfl, hkt, x1, y1, z1, g1, b1⟩ := hcut
            have T5 := hide x1
            have S5 := hide y1
            have C5 := hide z1
            have F5 := hide g1
            have B5 := hide b1
            clear x1 y1 z1 g1 b1 c2 f2 cs fs cc fc nb1 nb2 nb3 nb4 nb5 nb6 S3 C3 F3 B3
            obtain ⟨c2, f2, g2⟩ := (unhide F5).box
            obtain ⟨cc, fc, gc⟩ := unhide C5
            have x5 := (unhide F5).code.lt
            have k5 := (unhide T5).lt
            clear gc
            go_upto_region 11 with fail
            go_cut [13] from 17 to 122 (fun x wx => x = .int .i64 gg ∧ Box wx kt #[.int .i64 n1, .int .i64 pc1, .string regs1, .string cells1, .int .i64 clock1, .int .i64 handler1, .int .i64 back1, .bool pending1, .bool halted1] ∧ Box wx (w1.heap.size + 1) #[.int .i64 n0, .int .i64 pc0, .string regs0, .string cells0, .int .i64 clock0, .int .i64 handler0, .int .i64 back0, .bool pending0, .bool halted0] ∧ FilmAt wx B fb xb r' cap' p m2 l sv ∧ Keeps wr wx [fb, xb, r'])
            case first =>
              go_region_held3 (fun w' => w'.cell? ⟨fb, 1, none⟩ = some (.pointer (some ⟨xb, 0, none⟩)) ∧ w'.cell? ⟨w1.heap.size, 0, none⟩ = some (.int .i64 input) ∧ w'.cell? ⟨w1.heap.size, 1, none⟩ = some (.int .i64 ticks) ∧ w'.cell? ⟨w1.heap.size, 2, none⟩ = some (.bool interrupt)) (first | go_keep | (go_simp; done)) (first | (go_at_call 28; refine (unhide HMS _ (unhide F5).code.drew).mono ?_; rintro e w2 ⟨rfl, hx, hk⟩; have hk' := keeps_undrew hk; clear hk; have F6 := hide ((unhide F5).gone hx hk' (unhide HM2).1 (unhide HM2).2); have T6 := hide ((unhide T5).keeps hk' (by simp; omega)); have S6 := hide ((unhide S5).keeps hk' (by simp; omega)); have C6 := hide ((unhide C5).keeps hk' (by simp; omega)); have K6 := hide ((keeps_of (unhide B5) [fb, xb, r']).trans (hk'.mono (by simp))); clear hx hk'; obtain ⟨c6, f6, g6⟩ := (unhide F6).box; obtain ⟨c7, f7, g7⟩ := unhide C6))
              all_goals
                go_wp2_with fail
                go_meet
                case rel => exact ⟨rfl, unhide T6, unhide S6, unhide F6, unhide K6⟩
            case rest =>
              obtain ⟨rfl, x1, y1, g1, b1⟩ := hcut
              have T7 := hide x1
              have S7 := hide y1
              have F7 := hide g1
              have K7 := hide b1
              clear x1 y1 g1 b1 c2 f2 g2 cc fc T5 S5 C5 F5 B5
              obtain ⟨ct, ft, gt⟩ := unhide T7
              obtain ⟨cs, fs, gs⟩ := unhide S7
              by_cases hh : halted0 = true ∨ 10000 ≤ n0
              · obtain ⟨e1, e2, e3, e4⟩ := unhide HSP hh
                subst e1 e2 e3
                have HF := hide (e4 len (by omega))
                clear e4
                have K8 := hide (keeps_three (unhide K1) (unhide K7) (unhide hr2))
                have RL : Hid (Runs R Q p V (2 + k) len m2 l sv) := hide ⟨unhide HF, (unhide R1).state, (unhide R1).pm, (unhide R1).inv, (by have := (unhide R1).len; omega), (unhide R1).tale, (unhide R1).fit, (unhide R1).room, (unhide R1).period⟩
                have WL : Hid (Went R Q w wc B fb xb r p V (2 + k) len) := hide ⟨m2, r', cap', l, sv, unhide F7, unhide RL, unhide hr2, unhide K8, hs0, by omega⟩
                cases halted0 with
                | true =>
                  clear hh
                  go_wp2_with fail
                  go_ret
                  exact ⟨rfl, unhide WL⟩
                | false =>
                  have hn : 10000 ≤ n0 := by simpa using hh
                  clear hh
                  go_wp2_with fail
                  go_ret
                  exact ⟨rfl, unhide WL⟩
              · obtain ⟨RQ, e1, e2, e3, e4⟩ := unhide HGO hh
                have RR := hide RQ
                have hreg := e3.regs
                have hcel := e3.cells
                simp only at e4 hreg hcel
                subst e1 e2 e4
                have hhal : halted0 = false := by
                  cases halted0 with
                  | false => rfl
                  | true => exact absurd (Or.inl rfl) hh
                have hn : n0 < 10000 := by omega
                subst hhal
                have hn0 := (unhide R1).inv.ok.legal.n0
                rw [(unhide R1).state, ← unhide HLL] at hn0
                simp only at hn0
                clear RQ e3 hh HGO HSP
                obtain ⟨c2, f2, g2⟩ := (unhide F7).box
                have r7 := ((unhide F7).row.lt r' rfl).2
                go_upto_region 16 with fail
                obtain ⟨i0, hi, hz0, hz1', hz2⟩ := info_parts infoState
                have nb1 : ¬ fb = wc.heap.size := by omega
                have nb2 : ¬ wc.heap.size = fb := by omega
                go_region_law (refine step_append_lies _ (by rfl) _ _ _ (by rfl) B 42 i0 _ 9 80 Try.underlying29 hi hz0 hz1' hz2 rfl (by decide) (.slice (some ⟨r', 0, none⟩) l.length cap') l.length (rowS l) (by rfl) ((unhide F7).drew.next ((Below.refl _ _).alloc (Nat.le_refl _) _)).row ⟨wc.heap.size, 0, none⟩ 1 1 (stC ⟨n0 + 1, pc1, regs1, cells1, clock1, handler1, back1, pending1, halted1⟩) (by rfl) (by rfl) (news_nine wc.drew ⟨n0 + 1, pc1, regs1, cells1, clock1, handler1, back1, pending1, halted1⟩ _) (one_nine _) (by omega) (by unfold maxLen; omega) (by omega) (by simp; omega) _ rfl ?_; intro g' cap2 w3 hown hgrow hat hlt3; have AP := hide ((unhide F7).drew.app hown hgrow hat); have C8 := hide (((unhide F7).drew.box.alloc _).keeps (grown_keeps hgrow (List.mem_singleton.2 rfl)) (by simpa using nfr)); clear hown hgrow hat; obtain ⟨c8, f8, g8⟩ := unhide C8)
                all_goals
                  have s7 := (unhide K7).size
                  have s8 : wc.drew.heap.size = wc.heap.size := rfl
                  go_wp2_with fail
                  go_roundw
                  case rel =>
                    obtain ⟨p1, p2, p3⟩ := unhide AP
                    refine ⟨q + 1, by omega, by go_num, m2, g', cap2, l ++ [⟨n0 + 1, pc1, regs1, cells1, clock1, handler1, back1, pending1, halted1⟩], sv, p1, unhide RR, ?_, keeps_three (unhide K1) ((unhide K7).trans (keeps_undrew p3)) (unhide hr2), hs0, by omega⟩
                    rcases p2 with h | h
                    · rw [h]; exact unhide hr2
                    · right; omega
                  case measure => simp [intOf]; omega
    · have e : q = len := by omega
      subst e
      go_wp2_with fail
      go_ret
      exact ⟨rfl, m, r', cap', l, sv, unhide F1, unhide R1, unhide hr2, unhide K1, hs0, hs1⟩
end Keep
end Go.Proofs.Ytcmoffiigpchiaa
