import Derived.Test.YtcmoffiigpchiaaPaD
namespace Go.Proofs.Ytcmoffiigpchiaa
open Go.RowKit

set_option maxRecDepth 100000 in
set_option maxHeartbeats 4000000 in
/-- At, where the time is not within the run. -/
theorem hat_out (p : ByteArray) (l : List Hist.En) (v : Value) (n er : Int) (w0 w : World) (hR : Hist.IsRun l) (hl : l.length < 1000000) (hF : FRow w0 w v l)
    (hx : (Hist.spanErr l = er ∧ er ≠ 0) ∨ (Hist.spanErr l = 0 ∧ n < Hist.firstN l ∧ er = 7) ∨ (Hist.spanErr l = 0 ∧ ¬ n < Hist.firstN l ∧ Hist.lastTo l < n ∧ er = 8)) :
    Calls Try.prog 33 #[.string p, v, .int .i64 n] w fun e w' => e = .returned (.tuple #[Mach.zero.val, .int .i64 er]) ∧ Below w.heap.size w w' := by
  have HS := fun w1 => hide (fun (h : FRow w0 w1 v l) => span_code hR (by omega) h)
  have HF := hide hF
  clear hF hR hl
  generalize Hist.firstN l = f1 at *
  generalize Hist.lastTo l = f2 at *
  generalize Hist.spanErr l = f3 at *
  rcases hx with ⟨rfl, h1⟩ | ⟨rfl, h1, rfl⟩ | ⟨rfl, h1, h2, rfl⟩
  · have d : (f3 != 0) = true := by simp [h1]
    clear h1
    go_enter Try.func33, Try.ntmps33
    go_wp2_with fail
    refine (unhide (HS _) ((unhide HF).next ((Below.refl _ _).alloc (Nat.le_refl _) _))).mono ?_
    rintro e w1 ⟨rfl, hb⟩
    have X1 := hide ((Box.new w #[.int .i64 0, .int .i64 0, .string ⟨#[]⟩, .string ⟨#[]⟩, .int .i64 0, .int .i64 0, .int .i64 0, .bool false, .bool false] 42).next hb)
    have B1 := hide (bel_alloc hb)
    clear hb
    obtain ⟨cx, fx, gx⟩ := unhide X1
    clear gx
    have cz := (nine_boxR (unhide X1) (.int .i64 0) (.int .i64 0) (.string ⟨#[]⟩) (.string ⟨#[]⟩) (.int .i64 0) (.int .i64 0) (.int .i64 0) (.bool false) (.bool false)).c
    go_wp2_with fail
    refine bodyPost_ret (v := .tuple #[.agg #[.int .i64 0, .int .i64 0, .string ⟨#[]⟩, .string ⟨#[]⟩, .int .i64 0, .int .i64 0, .int .i64 0, .bool false, .bool false], .int .i64 f3]) (by simp [results, Try.results33, go_sem, cz]) rfl ⟨rfl, ?_⟩
    repeat (refine Below.setCell ?_ (by simp) _)
    exact unhide B1
  · go_enter Try.func33, Try.ntmps33
    go_wp2_with fail
    refine (unhide (HS _) ((unhide HF).next ((Below.refl _ _).alloc (Nat.le_refl _) _))).mono ?_
    rintro e w1 ⟨rfl, hb⟩
    have X1 := hide ((Box.new w #[.int .i64 0, .int .i64 0, .string ⟨#[]⟩, .string ⟨#[]⟩, .int .i64 0, .int .i64 0, .int .i64 0, .bool false, .bool false] 42).next hb)
    have B1 := hide (bel_alloc hb)
    clear hb
    obtain ⟨cx, fx, gx⟩ := unhide X1
    clear gx
    have cz := (nine_boxR (unhide X1) (.int .i64 0) (.int .i64 0) (.string ⟨#[]⟩) (.string ⟨#[]⟩) (.int .i64 0) (.int .i64 0) (.int .i64 0) (.bool false) (.bool false)).c
    go_wp2_with fail
    refine bodyPost_ret (v := .tuple #[.agg #[.int .i64 0, .int .i64 0, .string ⟨#[]⟩, .string ⟨#[]⟩, .int .i64 0, .int .i64 0, .int .i64 0, .bool false, .bool false], .int .i64 7]) (by simp [results, Try.results33, go_sem, cz]) rfl ⟨rfl, ?_⟩
    repeat (refine Below.setCell ?_ (by simp) _)
    exact unhide B1
  · go_enter Try.func33, Try.ntmps33
    go_wp2_with fail
    refine (unhide (HS _) ((unhide HF).next ((Below.refl _ _).alloc (Nat.le_refl _) _))).mono ?_
    rintro e w1 ⟨rfl, hb⟩
    have X1 := hide ((Box.new w #[.int .i64 0, .int .i64 0, .string ⟨#[]⟩, .string ⟨#[]⟩, .int .i64 0, .int .i64 0, .int .i64 0, .bool false, .bool false] 42).next hb)
    have B1 := hide (bel_alloc hb)
    clear hb
    obtain ⟨cx, fx, gx⟩ := unhide X1
    clear gx
    have cz := (nine_boxR (unhide X1) (.int .i64 0) (.int .i64 0) (.string ⟨#[]⟩) (.string ⟨#[]⟩) (.int .i64 0) (.int .i64 0) (.int .i64 0) (.bool false) (.bool false)).c
    go_wp2_with fail
    refine bodyPost_ret (v := .tuple #[.agg #[.int .i64 0, .int .i64 0, .string ⟨#[]⟩, .string ⟨#[]⟩, .int .i64 0, .int .i64 0, .int .i64 0, .bool false, .bool false], .int .i64 8]) (by simp [results, Try.results33, go_sem, cz]) rfl ⟨rfl, ?_⟩
    repeat (refine Below.setCell ?_ (by simp) _)
    exact unhide B1

/-- How many steps are left. -/
def leftAt (w : World) (b : Nat) (n : Int) : Nat := match w.cell? ⟨b, 0, none⟩ with
  | some (.int _ x) => (n - x).toNat
  | _ => 0
theorem leftAt_box {w : World} {b : Nat} {ca : Array Value} {k : IntKind} {x n : Int} (h : Box w b ca) (h0 : ca[0]? = some (.int k x)) : leftAt w b n = (n - x).toNat := by
  unfold leftAt
  rw [h.c 0, h0]
/-- What holds while the program goes up to a time. -/
def AtInv (w wr : World) (l : List Hist.En) (g cap b : Nat) (x : Hist.Pt) : Prop :=
  ∃ j o, j ≤ l.length ∧ (j < l.length → o = j * 15) ∧ x.later = l.drop j ∧ Box wr b (pcells x.n x.s x.known (slF g cap l.length j o)) ∧ Box wr w.heap.size #[.int .i64 0, .int .i64 0, .string ⟨#[]⟩, .string ⟨#[]⟩, .int .i64 0, .int .i64 0, .int .i64 0, .bool false, .bool false] ∧ LiesF wr g l ∧ w.heap.size < b ∧ Below w.heap.size w wr

set_option maxRecDepth 100000 in
set_option maxHeartbeats 4000000 in
/-- At, where it is. -/
theorem hat_in (p : ByteArray) (hp : p.size ≤ maxLen) (hg : (Code.chk p).1 = 0) (l : List Hist.En) (g cap : Nat) (n : Int) (w0 w : World) (hR : Hist.IsRun l) (hl : l.length < 1000000) (hF : FRow w0 w (.slice (some ⟨g, 0, none⟩) l.length cap) l) (hcap : l.length ≤ cap)
    (hne : l ≠ []) (h1 : Hist.firstN l ≤ n) (h2 : n ≤ Hist.lastTo l) (h3 : Hist.lastTo l ≤ 20000) (rs : StV) (re : Int) (hr : (rs, re) = match Hist.stood p l n with | some s => (s, 0) | none => (Mach.zero, 9)) :
    Calls Try.prog 33 #[.string p, .slice (some ⟨g, 0, none⟩) l.length cap, .int .i64 n] w fun e w' => e = .returned (.tuple #[rs.val, .int .i64 re]) ∧ Below w.heap.size w w' := by
  have hT : Hist.Tells l n := ⟨hR, hne, h1⟩
  obtain ⟨hsd, e0, he0, hf0, hle0, hR', hne'⟩ := Hist.stood_drop (p := p) hT
  have hse : Hist.spanErr l = 0 := by unfold Hist.spanErr; simp [hne]
  have HS := fun w1 => hide (fun (h : FRow w0 w1 (.slice (some ⟨g, 0, none⟩) l.length cap) l) => span_code hR (by omega) h)
  rw [hse] at HS
  have HSi := fun w1 => hide (fun h => since_code l g cap hne hcap hl n w1 h)
  have HB := fun w1 => hide (fun h => begin_code l g cap (Hist.fromOf l n) e0 he0 hcap hl w1 h)
  have HN := fun w1 j o s k (x : Int) => hide (fun h1 h2 h3 h4 h5 => next_code p hp l g cap j o h1 h2 hcap hl x h3 h4 s k w1 h5)
  have HW := hide (Hist.walk_meets (p := p) hg hR' hne')
  rw [hf0] at HW
  have HF := hide hF
  have HL := hide (LiesF.of (w := w0) hF.choose_spec.choose_spec.2.1)
  obtain ⟨Wk, hWk⟩ : ∃ W, W = Hist.walk p (l.drop (Hist.fromOf l n)) := ⟨_, rfl⟩
  have hW0 : Hist.beginP (l.drop (Hist.fromOf l n)) = Wk 0 := by rw [hWk]; rfl
  have HWS : Hid (∀ k, Hist.nextP p (Wk k) = Wk (k + 1)) := hide (fun k => by rw [hWk]; rfl)
  rw [← hWk] at HW
  rw [hW0] at HB
  have HSD := hide hsd
  have HR := hide hr
  have he00 : (0 : Int) ≤ e0.n := by omega
  clear hWk hW0 hsd hr hF hR hR' hne' he0 hf0 hse hT hne
  generalize hst : Hist.stood p l n = SO at *
  generalize Hist.firstN l = f1 at *
  generalize Hist.lastTo l = f2 at *
  generalize ((e0.n : Nat) : Int) = t0 at *
  generalize hfr : Hist.fromOf l n = fr at *
  go_enter Try.func33, Try.ntmps33
  go_wp2_with fail
  refine (unhide (HS _) ((unhide HF).next ((Below.refl _ _).alloc (Nat.le_refl _) _))).mono ?_
  rintro e w1 ⟨rfl, hb⟩
  have Y1 := hide ((Box.new w #[.int .i64 0, .int .i64 0, .string ⟨#[]⟩, .string ⟨#[]⟩, .int .i64 0, .int .i64 0, .int .i64 0, .bool false, .bool false] 42).next hb)
  have L1 := hide (((unhide HL).next ((Below.refl _ _).alloc (Nat.le_refl _) _)).next hb)
  have B1 := hide (bel_alloc hb)
  clear hb
  go_wp2_with fail
  refine (unhide (HSi _) (unhide L1)).mono ?_
  rintro e w2 ⟨rfl, hw⟩
  obtain rfl := hw.symm
  go_wp2_with fail
  refine (unhide (HB _) (unhide L1)).mono ?_
  rintro e w3 ⟨v, rfl, ht, hb⟩
  obtain ⟨j, o, t1, t2, t3, rfl⟩ := ht
  have Y3 := hide ((unhide Y1).next hb)
  have L3 := hide ((unhide L1).next hb)
  have B3 := hide ((unhide B1).trans (hb.mono (unhide B1).size))
  have hlt3 := (unhide Y3).lt
  clear hb
  have I0 : Hid (AtInv w (w3.alloc (.cells (pcells (Wk 0).n (Wk 0).s (Wk 0).known (slF g cap l.length j o)) 88)) l g cap w3.heap.size (Wk 0)) := hide ⟨j, o, t1, t2, t3, Box.new w3 _ _, (unhide Y3).alloc _, (unhide L3).next ((Below.refl _ _).alloc (Nat.le_refl _) _), by omega, (unhide B3).alloc (unhide B3).size _⟩
  clear t1 t2 t3
  go_wp2_with fail
  go_loopw [] (fun wr => ∃ k : Nat, t0 + k ≤ n ∧ AtInv w wr l g cap w3.heap.size (Wk k)) (fun wr => leftAt wr w3.heap.size n)
  case atStart => exact ⟨0, by omega, unhide I0⟩
  case round =>
    obtain ⟨k, hk, j, o, hj, ho, hla, hX, hY, hLL, hbb, hB⟩ := hrel
    have X4 := hide hX
    have Y4 := hide hY
    have L4 := hide hLL
    have B4 := hide hB
    have hm := unhide HW k
    have ht := hm.time
    have HOPT := hide hm.opt
    have HPE : Hid ((⟨(Wk k).n, (Wk k).s, (Wk k).known, l.drop j⟩ : Hist.Pt) = Wk k) := hide (by rw [← hla])
    clear hX hY hLL hB hm I0
    simp only [pcells] at X4
    obtain ⟨cx, fx, gx⟩ := unhide X4
    clear gx
    by_cases hlt : (Wk k).n < n
    · have HNN := hide (unhide (HN wr j o (Wk k).s (Wk k).known (Wk k).n) ho hj (by omega) (by omega) (unhide L4))
      rw [unhide HPE, unhide HWS] at HNN
      simp only [pval, pcells] at HNN
      have hk2 : t0 + ((k + 1 : Nat) : Int) ≤ n := by omega
      have ht2 := (unhide HW (k + 1)).time
      have HTI := hide ht
      have HTI2 := hide ht2
      clear ht ht2 hk
      go_wp2_with fail
      refine (unhide HNN).mono ?_
      rintro e w5 ⟨v, rfl, htt, hb⟩
      obtain ⟨j', o', t1, t2, t3, rfl⟩ := htt
      have X5 := hide ((unhide X4).next hb)
      have Y5 := hide ((unhide Y4).next hb)
      have L5 := hide ((unhide L4).next hb)
      have B5 := hide ((unhide B4).trans (hb.mono (unhide B4).size))
      have hg5 := (unhide HL).lt
      clear hb cx fx
      obtain ⟨cx, fx, gx⟩ := unhide X5
      clear gx
      have X6 := hide ((unhide X5).putQ (.int .i64 (Wk (k + 1)).n) (.int .i64 (Wk (k + 1)).s.n) (.int .i64 (Wk (k + 1)).s.pc) (.string (Wk (k + 1)).s.regs) (.string (Wk (k + 1)).s.cells) (.int .i64 (Wk (k + 1)).s.clock) (.int .i64 (Wk (k + 1)).s.handler) (.int .i64 (Wk (k + 1)).s.back) (.bool (Wk (k + 1)).s.pending) (.bool (Wk (k + 1)).s.halted) (.bool (Wk (k + 1)).known) (slF g cap l.length j' o'))
      go_wp2_with fail
      go_roundw
      case rel =>
        refine ⟨k + 1, hk2, j', o', t1, t2, t3, unhide X6, ?_, ?_, hbb, ?_⟩
        · repeat (refine Box.off ?_ (by simp; omega) _)
          exact unhide Y5
        · refine (unhide L5).keep (o := [w3.heap.size]) ?_ (by simp; omega)
          repeat (refine Keeps.setCell ?_ (by simp) _)
          exact Keeps.refl _ _
        · repeat (refine Below.setCell ?_ (by simp; omega) _)
          exact unhide B5
      case measure =>
        rw [leftAt_box (unhide X6) (k := .i64) (x := (Wk (k + 1)).n) rfl, leftAt_box (unhide X4) (k := .i64) (x := (Wk k).n) rfl, unhide HTI, unhide HTI2]
        omega
    · have hnn : t0 + (k : Int) = n := by omega
      rw [hnn] at HOPT
      have HRR := hide ((unhide HOPT).trans (unhide HSD))
      clear ht hnn
      cases hkn : (Wk k).known with
      | false =>
        have hso : SO = none := by
          rw [← unhide HRR]
          simp [Hist.Pt.opt, hkn]
        have hrr := unhide HR
        rw [hso] at hrr
        simp only [Prod.mk.injEq] at hrr
        obtain ⟨rfl, rfl⟩ := hrr
        obtain ⟨cy, fy, gy⟩ := unhide Y4
        clear gy hso
        have cz := (nine_boxR (unhide Y4) (.int .i64 0) (.int .i64 0) (.string ⟨#[]⟩) (.string ⟨#[]⟩) (.int .i64 0) (.int .i64 0) (.int .i64 0) (.bool false) (.bool false)).c
        go_wp2_with fail
        refine bodyPost_ret (v := .tuple #[.agg #[.int .i64 0, .int .i64 0, .string ⟨#[]⟩, .string ⟨#[]⟩, .int .i64 0, .int .i64 0, .int .i64 0, .bool false, .bool false], .int .i64 9]) (by simp [results, Try.results33, go_sem, cz]) rfl ⟨rfl, ?_⟩
        repeat (refine Below.setCell ?_ (by simp) _)
        exact unhide B4
      | true =>
        have hso : SO = some (Wk k).s := by
          rw [← unhide HRR]
          simp [Hist.Pt.opt, hkn]
        have hrr := unhide HR
        rw [hso] at hrr
        simp only [Prod.mk.injEq] at hrr
        obtain ⟨rfl, rfl⟩ := hrr
        obtain ⟨cy, fy, gy⟩ := unhide Y4
        clear gy hso
        have cz := (nine_boxR (unhide Y4) (.int .i64 (Wk k).s.n) (.int .i64 (Wk k).s.pc) (.string (Wk k).s.regs) (.string (Wk k).s.cells) (.int .i64 (Wk k).s.clock) (.int .i64 (Wk k).s.handler) (.int .i64 (Wk k).s.back) (.bool (Wk k).s.pending) (.bool (Wk k).s.halted)).c
        go_wp2_with fail
        refine bodyPost_ret (v := .tuple #[.agg #[.int .i64 (Wk k).s.n, .int .i64 (Wk k).s.pc, .string (Wk k).s.regs, .string (Wk k).s.cells, .int .i64 (Wk k).s.clock, .int .i64 (Wk k).s.handler, .int .i64 (Wk k).s.back, .bool (Wk k).s.pending, .bool (Wk k).s.halted], .int .i64 0]) (by simp [results, Try.results33, go_sem, cz]) rfl ⟨rfl, ?_⟩
        repeat (refine Below.setCell ?_ (by simp) _)
        exact unhide B4
end Go.Proofs.Ytcmoffiigpchiaa
