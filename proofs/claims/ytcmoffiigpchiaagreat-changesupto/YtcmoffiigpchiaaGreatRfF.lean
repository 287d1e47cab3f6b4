import Derived.Test.YtcmoffiigpchiaaGreatPaF
import Derived.Test.YtcmoffiigpchiaaGreatRfE
namespace Go.Proofs.YtcmoffiigpchiaaGreat
open Go.RowKit

/-- The document's run, as it lies from the beginning of a block on. -/
structure LiesE (w : World) (g : Nat) (l : List Hist.En) : Prop where
  lt : g < w.heap.size
  at_ : ∀ i e, l[i]? = some e → w.rangeAt g (i * 14) e.ecells
theorem LiesE.next {w w1 : World} {g : Nat} {l : List Hist.En} (h : LiesE w g l) (hb : Below w.heap.size w w1) : LiesE w1 g l :=
  ⟨Nat.lt_of_lt_of_le h.lt hb.size, fun i e hi => rangeAt_below hb h.lt (h.at_ i e hi)⟩
theorem LiesE.of {w wr : World} {g n cap : Nat} {l : List Hist.En} (h : wr.ownsRow w.heap.size 87 14 (.slice (some ⟨g, 0, none⟩) n cap) n (rowOf Hist.En.ecells l)) : LiesE wr g l :=
  ⟨(h.lt g rfl).2, fun _ _ hi => row_range ecells_length h hi⟩

set_option maxRecDepth 100000 in
set_option maxHeartbeats 4000000 in
theorem bounds_none (p : ByteArray) (hp : p.size ≤ maxLen) (n : Int) (w : World) :
    Calls Tryz.prog 62 #[.string p, .slice none 0 0, .int .i64 n] w fun e w' => e = .returned (.int .i64 (Hist.atErr p [] n)) ∧ Below w.heap.size w w' := by
  have HC := hide (fun w => check_ref p w hp)
  by_cases hg : (Code.chk p).1 = 0
  · have HE : Hid (Hist.atErr p [] n = 6) := hide (by unfold Hist.atErr; simp [hg])
    rw [hg] at HC
    generalize (Code.chk p).2 = c2 at *
    clear hg
    go_enter Tryz.func62, Tryz.ntmps62
    go_wp2_with fail
    refine (unhide HC _).mono ?_
    rintro e w1 ⟨rfl, hb⟩
    have B1 := hide hb
    clear hb
    go_wp2_with fail
    go_ret
    exact ⟨by rw [unhide HE]; rfl, unhide B1⟩
  · have HE : Hid (Hist.atErr p [] n = (Code.chk p).1) := hide (by unfold Hist.atErr; simp [hg])
    have d : ((Code.chk p).1 != 0) = true := by simp [hg]
    generalize (Code.chk p).1 = c1 at *
    generalize (Code.chk p).2 = c2 at *
    clear hg
    go_enter Tryz.func62, Tryz.ntmps62
    go_wp2_with fail
    refine (unhide HC _).mono ?_
    rintro e w1 ⟨rfl, hb⟩
    have B1 := hide hb
    clear hb
    go_wp2_with fail
    go_ret
    exact ⟨by rw [unhide HE]; rfl, unhide B1⟩

set_option maxRecDepth 100000 in
set_option maxHeartbeats 4000000 in
theorem bounds_some (p : ByteArray) (hp : p.size ≤ maxLen) (l : List Hist.En) (hR : Hist.IsRun l) (hne : l ≠ []) (hl : l.length < 1000000) (g cap : Nat) (n : Int) (w : World) (hL : LiesE w g l) :
    Calls Tryz.prog 62 #[.string p, .slice (some ⟨g, 0, none⟩) l.length cap, .int .i64 n] w fun e w' => e = .returned (.int .i64 (Hist.atErr p l n)) ∧ Below w.heap.size w w' := by
  have HC := hide (fun w => check_ref p w hp)
  by_cases hg : (Code.chk p).1 = 0
  · rw [hg] at HC
    generalize (Code.chk p).2 = c2 at *
    obtain ⟨m, hm⟩ : ∃ m, l.length = m + 1 := ⟨l.length - 1, by have := List.length_pos_iff.2 hne; omega⟩
    obtain ⟨a, hla⟩ : ∃ a, l.getLast? = some a := ⟨_, List.getLast?_eq_some_getLast hne⟩
    have hi : l[m]? = some a := by
      have := hla
      rw [List.getLast?_eq_getElem?, hm] at this
      simpa using this
    obtain ⟨f, hf⟩ : ∃ f, l[0]? = some f := ⟨_, List.getElem?_eq_getElem (by omega)⟩
    have e1 : Hist.firstN l = f.n := by unfold Hist.firstN; rw [List.head?_eq_getElem?, hf]
    have e2 : Hist.lastTo l = a.to := by unfold Hist.lastTo; rw [hla]
    have HT := hide (to_ref a (hR.ok a (List.mem_of_getElem? hi)).n)
    have c1 := hL.at_ 0 f hf 1 (.int .i64 f.n) rfl
    rw [Nat.zero_mul, Nat.zero_add] at c1
    have HE : Hid (Hist.atErr p l n = if n < (f.n : Int) then 7 else if ((a.to : Nat) : Int) < n then 8 else 0) := hide (by
      unfold Hist.atErr
      rw [e1, e2]
      simp [hg, hne])
    have HRG := hide (hL.at_ m a hi)
    have hgl := hL.lt
    have hm6 : m + 1 < 1000000 := by omega
    rw [hm]
    generalize ((f.n : Nat) : Int) = f1 at *
    generalize ((a.to : Nat) : Int) = ato at *
    clear hg hla hi hf e1 e2 hL hR hne hl hm
    obtain ⟨ast, ak, an, ⟨asn, apc, aregs, acells, aclock, ahandler, aback, apending, ahalted⟩, ⟨ainput, aticks, ainterrupt⟩⟩ := a
    simp only [Hist.En.eval, Hist.En.ecells] at HT HRG
    go_enter Tryz.func62, Tryz.ntmps62
    go_wp2_with fail
    refine (unhide HC _).mono ?_
    rintro e w1 ⟨rfl, hb⟩
    have B1 := hide hb
    clear hb
    have c1' := ((unhide B1).cell (p := ⟨g, 1, none⟩) hgl).trans c1
    have RG1 := hide (rangeAt_below (unhide B1) hgl (unhide HRG))
    clear c1
    by_cases h1 : n < f1
    · rw [if_pos h1] at HE
      go_wp2_with fail
      go_ret
      exact ⟨by rw [unhide HE]; rfl, unhide B1⟩
    · rw [if_neg h1] at HE
      by_cases h2 : ato < n
      · rw [if_pos h2] at HE
        go_wp2_with (first | (refine wpList_load_mid rfl 87 _ rfl g (m * 14) rfl [.bool ast, .int .i64 an, .int .i64 asn, .int .i64 apc, .string aregs, .string acells, .int .i64 aclock, .int .i64 ahandler, .int .i64 aback, .bool apending, .bool ahalted, .int .i64 ainput, .int .i64 aticks, .bool ainterrupt] _ (unhide RG1) Tryz.underlying87 rfl (by kernel_rfl) ?_) | (go_at_call 60; refine (unhide HT _).mono ?_; rintro e w2 ⟨rfl, hb⟩; have B2 := hide (bel_then (unhide B1) hb); clear hb))
        go_ret
        exact ⟨by rw [unhide HE]; rfl, unhide B2⟩
      · rw [if_neg h2] at HE
        go_wp2_with (first | (refine wpList_load_mid rfl 87 _ rfl g (m * 14) rfl [.bool ast, .int .i64 an, .int .i64 asn, .int .i64 apc, .string aregs, .string acells, .int .i64 aclock, .int .i64 ahandler, .int .i64 aback, .bool apending, .bool ahalted, .int .i64 ainput, .int .i64 aticks, .bool ainterrupt] _ (unhide RG1) Tryz.underlying87 rfl (by kernel_rfl) ?_) | (go_at_call 60; refine (unhide HT _).mono ?_; rintro e w2 ⟨rfl, hb⟩; have B2 := hide (bel_then (unhide B1) hb); clear hb))
        go_ret
        exact ⟨by rw [unhide HE]; rfl, unhide B2⟩
  · have HE : Hid (Hist.atErr p l n = (Code.chk p).1) := hide (by unfold Hist.atErr; simp [hg])
    have d : ((Code.chk p).1 != 0) = true := by simp [hg]
    generalize (Code.chk p).1 = c1 at *
    generalize (Code.chk p).2 = c2 at *
    clear hg
    go_enter Tryz.func62, Tryz.ntmps62
    go_wp2_with fail
    refine (unhide HC _).mono ?_
    rintro e w1 ⟨rfl, hb⟩
    have B1 := hide hb
    clear hb
    go_wp2_with fail
    go_ret
    exact ⟨by rw [unhide HE]; rfl, unhide B1⟩
end Go.Proofs.YtcmoffiigpchiaaGreat
