import Derived.Test.YtcmoffiigpchiaaPaE
import Derived.Test.YtcmoffiigpchiaaCheckW
namespace Go.Proofs.Ytcmoffiigpchiaa
open Go.RowKit

namespace Hist
theorem lastTo_le {l : List En} (h : IsRun l) : lastTo l ≤ 20000 := by
  unfold lastTo
  split
  · rename_i e he
    have hk := h.ok e (List.mem_of_getLast? he)
    have h1 := hk.n
    unfold En.to
    split <;> omega
  · omega
theorem atOf_chk {p : ByteArray} {l : List En} {n : Int} (h : (Code.chk p).1 ≠ 0) : atOf p l n = (Mach.zero, (Code.chk p).1) := by
  unfold atOf atErr
  simp [h]
theorem atOf_none {p : ByteArray} {l : List En} {n : Int} (h : (Code.chk p).1 = 0) (h0 : l = []) : atOf p l n = (Mach.zero, 6) := by
  unfold atOf atErr
  simp [h, h0]
theorem atOf_early {p : ByteArray} {l : List En} {n : Int} (h : (Code.chk p).1 = 0) (h0 : l ≠ []) (h1 : n < firstN l) : atOf p l n = (Mach.zero, 7) := by
  unfold atOf atErr
  simp [h, h0, h1]
theorem atOf_late {p : ByteArray} {l : List En} {n : Int} (h : (Code.chk p).1 = 0) (h0 : l ≠ []) (h1 : ¬ n < firstN l) (h2 : lastTo l < n) : atOf p l n = (Mach.zero, 8) := by
  unfold atOf atErr
  simp [h, h0, h1, h2]
theorem atOf_in {p : ByteArray} {l : List En} {n : Int} (h : (Code.chk p).1 = 0) (h0 : l ≠ []) (h1 : ¬ n < firstN l) (h2 : ¬ lastTo l < n) : atOf p l n = match stood p l n with | some s => (s, 0) | none => (Mach.zero, 9) := by
  unfold atOf atErr
  simp only [h, h0, h1, h2, ne_eq, not_true, if_false]
  cases stood p l n <;> rfl
end Hist

/-- At of a run, by the program. -/
theorem hat_code (p : ByteArray) (hp : p.size ≤ maxLen) (hg : (Code.chk p).1 = 0) (l : List Hist.En) (v : Value) (n : Int) (w0 w : World) (hR : Hist.IsRun l) (hl : l.length < 1000000) (hF : FRow w0 w v l) :
    Calls Try.prog 33 #[.string p, v, .int .i64 n] w fun e w' => e = .returned (.tuple #[(Hist.atOf p l n).1.val, .int .i64 (Hist.atOf p l n).2]) ∧ Below w.heap.size w w' := by
  by_cases h0 : l = []
  · rw [Hist.atOf_none hg h0]
    exact hat_out p l v n 6 w0 w hR hl hF (.inl ⟨by unfold Hist.spanErr; simp [h0], by decide⟩)
  · have hse : Hist.spanErr l = 0 := by unfold Hist.spanErr; simp [h0]
    by_cases h1 : n < Hist.firstN l
    · rw [Hist.atOf_early hg h0 h1]
      exact hat_out p l v n 7 w0 w hR hl hF (.inr (.inl ⟨hse, h1, rfl⟩))
    · by_cases h2 : Hist.lastTo l < n
      · rw [Hist.atOf_late hg h0 h1 h2]
        exact hat_out p l v n 8 w0 w hR hl hF (.inr (.inr ⟨hse, h1, h2, rfl⟩))
      · have hF' := hF
        obtain ⟨g, cap, rfl, ho, hb⟩ := hF'
        have hcap : l.length ≤ cap := by
          rcases ho.2 with ⟨hv, _⟩ | ⟨g2, c2, cur, hv, _, _, a1, _⟩
          · simp at hv
          · simp at hv
            omega
        exact hat_in p hp hg l g cap n w0 w hR hl hF hcap h0 (by omega) (by omega) (Hist.lastTo_le hR) _ _ (by rw [Hist.atOf_in hg h0 h1 h2]; cases Hist.stood p l n <;> rfl)

set_option maxRecDepth 100000 in
set_option maxHeartbeats 4000000 in
theorem at_api (p t : ByteArray) (hp : p.size ≤ maxLen) (ht : t.size ≤ 1048576) (n : Int) (w : World) :
    Calls Try.prog 18 #[.string p, .string t, .int .i64 n] w fun e w' => e = .returned (.tuple #[(Hist.atOf p (Hist.run t) n).1.val, .int .i64 (Hist.atOf p (Hist.run t) n).2]) ∧ Below w.heap.size w w' := by
  have HC := hide (fun w => check_code p w hp)
  by_cases hg : (Code.chk p).1 = 0
  · have HR := hide (run_code t ht)
    have hn := Hist.run_length t
    have HA := fun w0 w v => hide (fun hF => hat_code p hp hg (Hist.run t) v n w0 w (Hist.run_isRun t) (by omega) hF)
    generalize Hist.atOf p (Hist.run t) n = A at *
    obtain ⟨⟨sn, pc, regs, cells, clock, handler, back, pending, halted⟩, er⟩ := A
    rw [hg] at HC
    generalize (Code.chk p).2 = c2 at *
    clear hg
    go_enter Try.func18, Try.ntmps18
    go_wp2_with fail
    refine (unhide HC _).mono ?_
    rintro e w1 ⟨rfl, hw⟩
    obtain rfl := hw.symm
    go_wp2_with fail
    refine (unhide HR _).mono ?_
    rintro e w2 ⟨v, rfl, hF⟩
    have HF := hide hF
    have B2 : Hid (Below (w.alloc (.cells #[.int .i64 0, .int .i64 0, .string ⟨#[]⟩, .string ⟨#[]⟩, .int .i64 0, .int .i64 0, .int .i64 0, .bool false, .bool false] 42)).heap.size (w.alloc (.cells #[.int .i64 0, .int .i64 0, .string ⟨#[]⟩, .string ⟨#[]⟩, .int .i64 0, .int .i64 0, .int .i64 0, .bool false, .bool false] 42)) w2) := hide hF.choose_spec.choose_spec.2.2
    clear hF
    go_wp2_with fail
    refine (unhide (HA _ _ _) (unhide HF)).mono ?_
    rintro e w3 ⟨rfl, hb⟩
    have Y3 := hide (((Box.new w #[.int .i64 0, .int .i64 0, .string ⟨#[]⟩, .string ⟨#[]⟩, .int .i64 0, .int .i64 0, .int .i64 0, .bool false, .bool false] 42).next (unhide B2)).next hb)
    have B3 := hide (bel_then (bel_alloc (unhide B2)) hb)
    clear hb
    obtain ⟨cy, fy, gy⟩ := unhide Y3
    clear gy
    have cz := (nine_boxR (unhide Y3) (.int .i64 sn) (.int .i64 pc) (.string regs) (.string cells) (.int .i64 clock) (.int .i64 handler) (.int .i64 back) (.bool pending) (.bool halted)).c
    go_wp2_with fail
    refine bodyPost_ret (v := .tuple #[.agg #[.int .i64 sn, .int .i64 pc, .string regs, .string cells, .int .i64 clock, .int .i64 handler, .int .i64 back, .bool pending, .bool halted], .int .i64 er]) (by simp [results, Try.results18, go_sem, cz]) rfl ⟨rfl, ?_⟩
    repeat (refine Below.setCell ?_ (by simp) _)
    exact unhide B3
  · rw [Hist.atOf_chk hg]
    have d : ((Code.chk p).1 != 0) = true := by simp [hg]
    generalize (Code.chk p).1 = c1 at *
    generalize (Code.chk p).2 = c2 at *
    clear hg
    go_enter Try.func18, Try.ntmps18
    go_wp2_with fail
    refine (unhide HC _).mono ?_
    rintro e w1 ⟨rfl, hw⟩
    obtain rfl := hw.symm
    go_wp2_with fail
    refine bodyPost_ret (v := .tuple #[.agg #[.int .i64 0, .int .i64 0, .string ⟨#[]⟩, .string ⟨#[]⟩, .int .i64 0, .int .i64 0, .int .i64 0, .bool false, .bool false], .int .i64 c1]) (by simp [results, Try.results18, go_sem]) rfl ⟨rfl, ?_⟩
    exact (Below.refl _ _).alloc (Nat.le_refl _) _
end Go.Proofs.Ytcmoffiigpchiaa
