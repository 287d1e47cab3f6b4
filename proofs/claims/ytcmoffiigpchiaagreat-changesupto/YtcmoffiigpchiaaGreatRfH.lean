import Derived.Test.YtcmoffiigpchiaaGreatPaF
import Derived.Test.YtcmoffiigpchiaaGreatRfE
import Derived.Test.YtcmoffiigpchiaaGreatStepR
import Derived.Test.YtcmoffiigpchiaaGreatOneW
namespace Go.Proofs.YtcmoffiigpchiaaGreat
open Go.RowKit

/-- The document's run, as it lies from the beginning of a block on. -/
structure LiesE (w : World) (g : Nat) (l : List Hist.En) : Prop where
  lt : g < w.heap.size
  at_ : ∀ i e, l[i]? = some e → w.rangeAt g (i * 14) e.ecells
theorem LiesE.next {w w1 : World} {g : Nat} {l : List Hist.En} (h : LiesE w g l) (hb : Below w.heap.size w w1) : LiesE w1 g l :=
  ⟨Nat.lt_of_lt_of_le h.lt hb.size, fun i e hi => rangeAt_below hb h.lt (h.at_ i e hi)⟩
theorem LiesE.of {w wr : World} {g n cap : Nat} {l : List Hist.En} (h : wr.ownsRow w.heap.size 87 14 (.slice (some ⟨g, 0, none⟩) n cap) n (rowOf Hist.En.ecells l)) : LiesE wr g l :=
  ⟨(h.lt g rfl).2, fun _ _ hi => row_range ecells_length h hi⟩

set_option maxRecDepth 100000 in
set_option maxHeartbeats 4000000 in
theorem bounds_none (p : ByteArray) (hp : p.size ≤ maxLen) (n : Int) (w : World) :
    Calls Tryz.prog 62 #[.string p, .slice none 0 0, .int .i64 n] w fun e w' => e = .returned (.int .i64 (Hist.atErr p [] n)) ∧ Below w.heap.size w w' := by
  have HC := hide (fun w => check_ref p w hp)
  by_cases hg : (Code.chk p).1 = 0
  · have HE : Hid (Hist.atErr p [] n = 6) := hide (by unfold Hist.atErr; simp [hg])
    rw [hg] at HC
    generalize (Code.chk p).2 = c2 at *
    clear hg
    go_enter Tryz.func62, Tryz.ntmps62
    go_wp2_with fail
    refine (unhide HC _).mono ?_
    rintro e w1 ⟨rfl, hb⟩
    have B1 := hide hb
    clear hb
    go_wp2_with fail
    go_ret
    exact ⟨by rw [unhide HE]; rfl, unhide B1⟩
  · have HE : Hid (Hist.atErr p [] n = (Code.chk p).1) := hide (by unfold Hist.atErr; simp [hg])
    have d : ((Code.chk p).1 != 0) = true := by simp [hg]
    generalize (Code.chk p).1 = c1 at *
    generalize (Code.chk p).2 = c2 at *
    clear hg
    go_enter Tryz.func62, Tryz.ntmps62
    go_wp2_with fail
    refine (unhide HC _).mono ?_
    rintro e w1 ⟨rfl, hb⟩
    have B1 := hide hb
    clear hb
    go_wp2_with fail
    go_ret
    exact ⟨by rw [unhide HE]; rfl, unhide B1⟩

set_option maxRecDepth 100000 in
set_option maxHeartbeats 4000000 in
theorem bounds_some (p : ByteArray) (hp : p.size ≤ maxLen) (l : List Hist.En) (hR : Hist.IsRun l) (hne : l ≠ []) (hl : l.length < 1000000) (g cap : Nat) (n : Int) (w : World) (hL : LiesE w g l) :
    Calls Tryz.prog 62 #[.string p, .slice (some ⟨g, 0, none⟩) l.length cap, .int .i64 n] w fun e w' => e = .returned (.int .i64 (Hist.atErr p l n)) ∧ Below w.heap.size w w' := by
  have HC := hide (fun w => check_ref p w hp)
  by_cases hg : (Code.chk p).1 = 0
  · rw [hg] at HC
    generalize (Code.chk p).2 = c2 at *
    obtain ⟨m, hm⟩ : ∃ m, l.length = m + 1 := ⟨l.length - 1, by have := List.length_pos_iff.2 hne; omega⟩
    obtain ⟨a, hla⟩ : ∃ a, l.getLast? = some a := ⟨_, List.getLast?_eq_some_getLast hne⟩
    have hi : l[m]? = some a := by
      have := hla
      rw [List.getLast?_eq_getElem?, hm] at this
      simpa using this
    obtain ⟨f, hf⟩ : ∃ f, l[0]? = some f := ⟨_, List.getElem?_eq_getElem (by omega)⟩
    have e1 : Hist.firstN l = f.n := by unfold Hist.firstN; rw [List.head?_eq_getElem?, hf]
    have e2 : Hist.lastTo l = a.to := by unfold Hist.lastTo; rw [hla]
    have HT := hide (to_ref a (hR.ok a (List.mem_of_getElem? hi)).n)
    have c1 := hL.at_ 0 f hf 1 (.int .i64 f.n) rfl
    rw [Nat.zero_mul, Nat.zero_add] at c1
    have HE : Hid (Hist.atErr p l n = if n < (f.n : Int) then 7 else if ((a.to : Nat) : Int) < n then 8 else 0) := hide (by
      unfold Hist.atErr
      rw [e1, e2]
      simp [hg, hne])
    have HRG := hide (hL.at_ m a hi)
    have hgl := hL.lt
    have hm6 : m + 1 < 1000000 := by omega
    rw [hm]
    generalize ((f.n : Nat) : Int) = f1 at *
    generalize ((a.to : Nat) : Int) = ato at *
    clear hg hla hi hf e1 e2 hL hR hne hl hm
    obtain ⟨ast, ak, an, ⟨asn, apc, aregs, acells, aclock, ahandler, aback, apending, ahalted⟩, ⟨ainput, aticks, ainterrupt⟩⟩ := a
    simp only [Hist.En.eval, Hist.En.ecells] at HT HRG
    go_enter Tryz.func62, Tryz.ntmps62
    go_wp2_with fail
    refine (unhide HC _).mono ?_
    rintro e w1 ⟨rfl, hb⟩
    have B1 := hide hb
    clear hb
    have c1' := ((unhide B1).cell (p := ⟨g, 1, none⟩) hgl).trans c1
    have RG1 := hide (rangeAt_below (unhide B1) hgl (unhide HRG))
    clear c1
    by_cases h1 : n < f1
    · rw [if_pos h1] at HE
      go_wp2_with fail
      go_ret
      exact ⟨by rw [unhide HE]; rfl, unhide B1⟩
    · rw [if_neg h1] at HE
      by_cases h2 : ato < n
      · rw [if_pos h2] at HE
        go_wp2_with (first | (refine wpList_load_mid rfl 87 _ rfl g (m * 14) rfl [.bool ast, .int .i64 an, .int .i64 asn, .int .i64 apc, .string aregs, .string acells, .int .i64 aclock, .int .i64 ahandler, .int .i64 aback, .bool apending, .bool ahalted, .int .i64 ainput, .int .i64 aticks, .bool ainterrupt] _ (unhide RG1) Tryz.underlying87 rfl (by kernel_rfl) ?_) | (go_at_call 60; refine (unhide HT _).mono ?_; rintro e w2 ⟨rfl, hb⟩; have B2 := hide (bel_then (unhide B1) hb); clear hb))
        go_ret
        exact ⟨by rw [unhide HE]; rfl, unhide B2⟩
      · rw [if_neg h2] at HE
        go_wp2_with (first | (refine wpList_load_mid rfl 87 _ rfl g (m * 14) rfl [.bool ast, .int .i64 an, .int .i64 asn, .int .i64 apc, .string aregs, .string acells, .int .i64 aclock, .int .i64 ahandler, .int .i64 aback, .bool apending, .bool ahalted, .int .i64 ainput, .int .i64 aticks, .bool ainterrupt] _ (unhide RG1) Tryz.underlying87 rfl (by kernel_rfl) ?_) | (go_at_call 60; refine (unhide HT _).mono ?_; rintro e w2 ⟨rfl, hb⟩; have B2 := hide (bel_then (unhide B1) hb); clear hb))
        go_ret
        exact ⟨by rw [unhide HE]; rfl, unhide B2⟩
  · have HE : Hid (Hist.atErr p l n = (Code.chk p).1) := hide (by unfold Hist.atErr; simp [hg])
    have d : ((Code.chk p).1 != 0) = true := by simp [hg]
    generalize (Code.chk p).1 = c1 at *
    generalize (Code.chk p).2 = c2 at *
    clear hg
    go_enter Tryz.func62, Tryz.ntmps62
    go_wp2_with fail
    refine (unhide HC _).mono ?_
    rintro e w1 ⟨rfl, hb⟩
    have B1 := hide hb
    clear hb
    go_wp2_with fail
    go_ret
    exact ⟨by rw [unhide HE]; rfl, unhide B1⟩
end Go.Proofs.YtcmoffiigpchiaaGreat

namespace Go.Proofs.YtcmoffiigpchiaaGreat
open Go.RowKit

abbrev stA (s : StV) : Array Value := #[.int .i64 s.n, .int .i64 s.pc, .string s.regs, .string s.cells, .int .i64 s.clock, .int .i64 s.handler, .int .i64 s.back, .bool s.pending, .bool s.halted]
abbrev chA (c : ChV) : Array Value := #[.int .i64 c.input, .int .i64 c.ticks, .bool c.interrupt]
/-- The choice of a time, of the first i entries behind one. -/
def choiceUp (l : List Hist.En) (f i : Nat) (m : Int) : ChV := Hist.choiceAt ((l.drop (f + 1)).take (i - (f + 1))) m
/-- What holds while the document goes up to a time. -/
def StoodInv (w wr : World) (p : ByteArray) (l : List Hist.En) (g b f : Nat) (n : Int) (e : Hist.En) : Prop :=
  ∃ (k : Nat) (s : StV), e.s.n + k ≤ n ∧ Hist.up p (l.drop (f + 1)) e.s k = some s ∧ Mach.Legal s ∧ Box wr b (stA s) ∧ Box wr w.heap.size #[.int .i64 0, .int .i64 0, .string ⟨#[]⟩, .string ⟨#[]⟩, .int .i64 0, .int .i64 0, .int .i64 0, .bool false, .bool false] ∧ LiesE wr g l ∧ w.heap.size < b ∧ Below w.heap.size w wr

/-- What holds while the document looks for a choice. -/
def ChoiceInv (w wr : World) (l : List Hist.En) (g b bc f i : Nat) (s : StV) : Prop :=
  Box wr b (stA s) ∧ Box wr w.heap.size #[.int .i64 0, .int .i64 0, .string ⟨#[]⟩, .string ⟨#[]⟩, .int .i64 0, .int .i64 0, .int .i64 0, .bool false, .bool false] ∧ Box wr bc (chA (choiceUp l f i s.n)) ∧ LiesE wr g l ∧ Below w.heap.size w wr
theorem choiceUp_start (l : List Hist.En) (f : Nat) (m : Int) : choiceUp l f (f + 1) m = Hist.noCh := by
  unfold choiceUp
  rw [Nat.sub_self]
  rfl
theorem choiceUp_next {l : List Hist.En} {f i : Nat} {m : Int} {e : Hist.En} (hi : f + 1 ≤ i) (he : l[i]? = some e) : choiceUp l f (i + 1) m = if e.st = false ∧ (e.n : Int) = m then e.c else choiceUp l f i m := by
  unfold choiceUp Hist.choiceAt
  have h1 : (l.drop (f + 1))[i - (f + 1)]? = some e := by rw [List.getElem?_drop, show f + 1 + (i - (f + 1)) = i by omega]; exact he
  have hlt := (List.getElem?_eq_some_iff.1 h1).1
  rw [show i + 1 - (f + 1) = (i - (f + 1)) + 1 by omega, List.take_succ_eq_append_getElem hlt, List.foldl_append]
  rw [List.getElem?_eq_getElem hlt] at h1
  rw [Option.some.inj h1]
  rfl
theorem choiceUp_all {l : List Hist.En} {f : Nat} {m : Int} : choiceUp l f l.length m = Hist.choiceAt (l.drop (f + 1)) m := by
  unfold choiceUp
  rw [List.take_of_length_le (by simp)]
theorem LiesE.keep {w w1 : World} {g : Nat} {l : List Hist.En} {o : List Nat} (h : LiesE w g l) (k : Keeps w w1 o) (hg : g ∉ o) : LiesE w1 g l :=
  ⟨Nat.lt_of_lt_of_le h.lt k.size, fun i e hi j v hv => by rw [World.cell?_of_block (w := w) (k.block g h.lt hg)]; exact h.at_ i e hi j v hv⟩

theorem up_none {p : ByteArray} {l : List Hist.En} {s : StV} {k : Nat} (h : Hist.up p l s k = none) : ∀ d, Hist.up p l s (k + d) = none := by
  intro d
  induction d with
  | zero => exact h
  | succ d ih =>
    show (Hist.up p l s (k + d)).bind _ = none
    rw [ih]
    rfl

set_option maxRecDepth 100000 in
set_option maxHeartbeats 4000000 in
theorem stood_ref (p : ByteArray) (hg : (Code.chk p).1 = 0) (l : List Hist.En) (g cap : Nat) (n : Int) (w : World) (hT : Hist.Tells l n) (hl : l.length < 1000000) (hL : LiesE w g l) (rs : StV) (ok : Bool) (hr : (rs, ok) = match Hist.stood p l n with | some s => (s, true) | none => (Mach.zero, false)) :
    Calls Tryz.prog 63 #[.string p, .slice (some ⟨g, 0, none⟩) l.length cap, .int .i64 n] w fun e w' => e = .returned (.tuple #[rs.val, .bool ok]) ∧ Below w.heap.size w w' := by
  obtain ⟨⟨e, he, hes, hen⟩, hlast⟩ := hT.from
  have hgw := hL.lt
  have HRS := hide hr
  clear hr
  go_enter Tryz.func63, Tryz.ntmps63
  go_wp2_with fail
  have Y0 := hide (Box.new w #[.int .i64 0, .int .i64 0, .string ⟨#[]⟩, .string ⟨#[]⟩, .int .i64 0, .int .i64 0, .int .i64 0, .bool false, .bool false] 30)
  have B0 := hide ((Below.refl w.heap.size w).alloc (Nat.le_refl _) (.cells #[.int .i64 0, .int .i64 0, .string ⟨#[]⟩, .string ⟨#[]⟩, .int .i64 0, .int .i64 0, .int .i64 0, .bool false, .bool false] 30))
  have L0 := hide (hL.next (unhide B0))
  have hwy : (w.alloc (.cells #[.int .i64 0, .int .i64 0, .string ⟨#[]⟩, .string ⟨#[]⟩, .int .i64 0, .int .i64 0, .int .i64 0, .bool false, .bool false] 30)).heap.size = w.heap.size + 1 := by simp
  generalize w.alloc (.cells #[.int .i64 0, .int .i64 0, .string ⟨#[]⟩, .string ⟨#[]⟩, .int .i64 0, .int .i64 0, .int .i64 0, .bool false, .bool false] 30) = wy at *
  go_loop [8, 9] (fun f i => ∃ k : Nat, k ≤ l.length ∧ i = .int .i64 k ∧ f = .int .i64 (Hist.fromUp l n k : Nat)) (fun _ i => l.length - (intOf i).toNat)
  case atStart => exact ⟨0, Nat.zero_le _, rfl, rfl⟩
  case round =>
    obtain ⟨k, hk, rfl, rfl⟩ := hrel
    by_cases hlt : k < l.length
    · obtain ⟨x, hx⟩ : ∃ x, l[k]? = some x := ⟨_, List.getElem?_eq_getElem hlt⟩
      have hrr := (unhide L0).at_ k x hx
      have c0 := hrr 0 _ rfl
      have c1 := hrr 1 _ rfl
      rw [Nat.add_zero] at c0
      have hup : Hid (Hist.fromUp l n (k + 1) = if x.st = true ∧ (x.n : Int) ≤ n then k else Hist.fromUp l n k) := hide (by
        conv => lhs; unfold Hist.fromUp
        rw [hx])
      have HE := hide he
      have HLA := hide hlast
      clear hrr hx he hlast
      cases hst : x.st with
      | false =>
        rw [hst] at c0 hup
        go_wp2_with fail
        go_round
        case rel => exact ⟨k + 1, by omega, by go_num, by rw [unhide hup]; simp⟩
        case measure => simp [intOf]; omega
      | true =>
        rw [hst] at c0 hup
        by_cases hn : (x.n : Int) ≤ n
        · go_wp2_with fail
          go_round
          case rel => exact ⟨k + 1, by omega, by go_num, by rw [unhide hup, if_pos ⟨rfl, hn⟩]⟩
          case measure => simp [intOf]; omega
        · go_wp2_with fail
          go_round
          case rel => exact ⟨k + 1, by omega, by go_num, by rw [unhide hup, if_neg (fun h => hn h.2)]⟩
          case measure => simp [intOf]; omega
    · have hkl : k = l.length := by omega
      subst hkl
      have hfl : Hist.fromUp l n l.length < l.length := (List.getElem?_eq_some_iff.1 he).1
      have HFR : Hid (Hist.fromUp l n l.length = Hist.fromOf l n) := hide rfl
      have hrr := (unhide L0).at_ (Hist.fromUp l n l.length) e he
      generalize Hist.fromUp l n l.length = f at *
      have r2 := hrr 2 _ rfl
      have r3 := hrr 3 _ rfl
      have r4 := hrr 4 _ rfl
      have r5 := hrr 5 _ rfl
      have r6 := hrr 6 _ rfl
      have r7 := hrr 7 _ rfl
      have r8 := hrr 8 _ rfl
      have r9 := hrr 9 _ rfl
      have r10 := hrr 10 _ rfl
      have HE := hide he
      have HLA := hide hlast
      have HT := hide hT
      clear hrr he hlast hT
      have i1 : (f : Int) < (l.length : Int) := by omega
      go_wp2_with fail
      have hok := (unhide HT).run.ok e (List.mem_of_getElem? (unhide HE))
      have hen2 := hok.sN hes
      have I0 : Hid (StoodInv w (wy.alloc (.cells (stA e.s) 30)) p l g (w.heap.size + 1) f n e) := hide ⟨0, e.s, by rw [hen2]; omega, rfl, hok.sL hes, (by have h := Box.new wy (stA e.s) 30; rw [hwy] at h; exact h), (unhide Y0).alloc _, (unhide L0).next ((Below.refl _ _).alloc (Nat.le_refl _) _), by omega, (unhide B0).alloc (unhide B0).size _⟩
      have HEN2 := hide hen2
      clear r2 r3 r4 r5 r6 r7 r8 r9 r10 hen2
      go_loopw [] (fun wr => StoodInv w wr p l g (w.heap.size + 1) f n e) (fun wr => leftAt wr (w.heap.size + 1) n)
      case atStart => exact unhide I0
      case round =>
        obtain ⟨k, s, hk, hup, hleg, hX, hY, hLL, hbb, hB⟩ := hrel
        have X1 := hide hX
        have Y1 := hide hY
        have L1 := hide hLL
        have B1 := hide hB
        have HUP := hide hup
        have hsn := Hist.up_n k s hup
        clear hX hY hLL hB hup I0
        obtain ⟨cx, fx, gx⟩ := unhide X1
        clear gx
        by_cases hlt2 : s.n < n
        · obtain ⟨sn, pc, regs, cells, clock, handler, back, pending, halted⟩ := s
          simp only at hlt2 hsn
          have HSN := hide hsn
          have HK := hide hk
          clear hsn hk
          simp only [stA] at X1 cx
          have hz1 := (unhide B1).size
          go_wp2_with fail
          have Z2 := hide (Box.new wr #[.int .i64 0, .int .i64 0, .bool false] 32)
          have X2 := hide ((unhide X1).alloc (.cells #[.int .i64 0, .int .i64 0, .bool false] 32))
          have Y2 := hide ((unhide Y1).alloc (.cells #[.int .i64 0, .int .i64 0, .bool false] 32))
          have L2 := hide ((unhide L1).next ((Below.refl wr.heap.size wr).alloc (Nat.le_refl _) (.cells #[.int .i64 0, .int .i64 0, .bool false] 32)))
          have B2 := hide ((unhide B1).alloc (unhide B1).size (.cells #[.int .i64 0, .int .i64 0, .bool false] 32))
          have hx1 := (unhide X1).lt
          obtain ⟨bc, hbc⟩ : ∃ bc, bc = wr.heap.size := ⟨_, rfl⟩
          rw [← hbc] at Z2 ⊢
          have HBC := hide hbc
          have hbc2 : w.heap.size + 1 < bc := by omega
          clear hbc
          generalize wr.alloc (.cells #[.int .i64 0, .int .i64 0, .bool false] 32) = w2 at *
          go_loopw [12] (fun i wx => ∃ q : Nat, f + 1 ≤ q ∧ q ≤ l.length ∧ i = .int .i64 q ∧ ChoiceInv w wx l g (w.heap.size + 1) bc f q ⟨sn, pc, regs, cells, clock, handler, back, pending, halted⟩) (fun i _ => l.length - (intOf i).toNat)
          case atStart => exact ⟨f + 1, by omega, by omega, by go_num, unhide X2, unhide Y2, (by rw [choiceUp_start]; exact unhide Z2), unhide L2, unhide B2⟩
          case round =>
            obtain ⟨q, hq1, hq2, rfl, hX, hY, hZ, hLL, hB⟩ := hrel
            have X3 := hide hX
            have Y3 := hide hY
            have Z3 := hide hZ
            have L3 := hide hLL
            have B3 := hide hB
            clear hX hY hZ hLL hB cx fx X2 Y2 Z2 L2 B2
            simp only [stA] at X3
            obtain ⟨cx, fx, gx⟩ := unhide X3
            clear gx
            by_cases hlq : q < l.length
            · obtain ⟨x, hx⟩ : ∃ x, l[q]? = some x := ⟨_, List.getElem?_eq_getElem hlq⟩
              have hrr := (unhide L3).at_ q x hx
              have c0 := hrr 0 _ rfl
              have c1 := hrr 1 _ rfl
              have c11 := hrr 11 _ rfl
              have c12 := hrr 12 _ rfl
              have c13 := hrr 13 _ rfl
              rw [Nat.add_zero] at c0
              have hcu := hide (choiceUp_next (m := sn) hq1 hx)
              have i2 : (q : Int) < (l.length : Int) := by omega
              clear hrr hx
              obtain ⟨xst, xk, xn, xs, ⟨xi, xt, xb⟩⟩ := x
              simp only at c0 c1 c11 c12 c13 hcu
              cases xst with
              | true =>
                simp only [Bool.true_eq_false, false_and, if_false] at hcu
                go_wp2_with fail
                go_quiet (fail)
                go_wp2_with fail
                go_roundw
                case rel => exact ⟨q + 1, by omega, by omega, by go_num, (unhide X3).drewN _, (unhide Y3).drewN _, (by rw [unhide hcu]; exact (unhide Z3).drewN _), ⟨(unhide L3).lt, (unhide L3).at_⟩, bel_drewN (unhide B3) _⟩
                case measure => simp [intOf]; omega
              | false =>
                by_cases hn : (xn : Int) = sn
                · have dn : ((xn : Int) == sn) = true := by simp [hn]
                  have hcu2 : Hid (choiceUp l f (q + 1) sn = ⟨xi, xt, xb⟩) := hide (by rw [unhide hcu]; simp [hn])
                  clear hn
                  go_wp2_with fail
                  go_quiet (fail)
                  obtain ⟨cz, fz, gz⟩ := (unhide Z3).drewN nq
                  clear gz
                  go_wp2_with fail
                  go_roundw
                  case rel =>
                    refine ⟨q + 1, by omega, by omega, by go_num, ?_, ?_, ?_, ?_, ?_⟩
                    · repeat (refine Box.off ?_ (by simp; omega) _)
                      exact (unhide X3).drewN _
                    · repeat (refine Box.off ?_ (by simp; omega) _)
                      exact (unhide Y3).drewN _
                    · rw [unhide hcu2]
                      exact ((unhide Z3).drewN _).put3 _ _ _
                    · refine LiesE.keep (w := wr.drewN nq) ⟨(unhide L3).lt, (unhide L3).at_⟩ (o := [bc]) ?_ (by simp; omega)
                      repeat (refine Keeps.setCell ?_ (by simp) _)
                      exact Keeps.refl _ _
                    · repeat (refine Below.setCell ?_ (by simp; omega) _)
                      exact bel_drewN (unhide B3) _
                  case measure => simp [intOf]; omega
                · have dn : ((xn : Int) == sn) = false := by simp [hn]
                  have hcu3 : Hid (choiceUp l f (q + 1) sn = choiceUp l f q sn) := hide (by rw [unhide hcu]; simp [hn])
                  clear hn
                  go_wp2_with fail
                  go_quiet (fail)
                  go_wp2_with fail
                  go_roundw
                  case rel => exact ⟨q + 1, by omega, by omega, by go_num, (unhide X3).drewN _, (unhide Y3).drewN _, (by rw [unhide hcu3]; exact (unhide Z3).drewN _), ⟨(unhide L3).lt, (unhide L3).at_⟩, bel_drewN (unhide B3) _⟩
                  case measure => simp [intOf]; omega
            · have hql : q = l.length := by omega
              subst hql
              have hcall : choiceUp l f l.length sn = Hist.choiceAt (l.drop (f + 1)) sn := choiceUp_all
              have hch := Hist.choiceAt_chosen (l := l.drop (f + 1)) (fun x hx => (unhide HT).run.ok x (List.mem_of_mem_drop hx)) sn
              have HST : Hid (Hist.stood p l n = Hist.up p (l.drop (f + 1)) e.s (n - e.s.n).toNat) := hide (by
                unfold Hist.stood
                rw [← unhide HFR] at *
                rw [show l[f]? = some e from by rw [unhide HFR]; exact unhide HE])
              have HUK : Hid (Hist.up p (l.drop (f + 1)) e.s (k + 1) = Hist.nextO p ⟨sn, pc, regs, cells, clock, handler, back, pending, halted⟩ (Hist.choiceAt (l.drop (f + 1)) sn)) := hide (by
                show (Hist.up p (l.drop (f + 1)) e.s k).bind _ = _
                rw [unhide HUP]
                rfl)
              rw [hcall] at Z3
              generalize Hist.choiceAt (l.drop (f + 1)) sn = c at *
              have hne1 := unhide HSN
              have hne2 := unhide HK
              by_cases hh : halted = true ∨ 10000 ≤ sn
              · have hno : Hist.nextO p ⟨sn, pc, regs, cells, clock, handler, back, pending, halted⟩ c = none := by unfold Hist.nextO; rw [if_pos hh]
                have hst : Hist.stood p l n = none := by
                  rw [unhide HST]
                  have h := up_none ((unhide HUK).trans hno) ((n - e.s.n).toNat - (k + 1))
                  rw [show k + 1 + ((n - e.s.n).toNat - (k + 1)) = (n - e.s.n).toNat by omega] at h
                  exact h
                have hrr := unhide HRS
                rw [hst] at hrr
                simp only [Prod.mk.injEq] at hrr
                obtain ⟨rfl, rfl⟩ := hrr
                have HN := hide (next_halt p ⟨sn, pc, regs, cells, clock, handler, back, pending, halted⟩ c hh)
                clear hh hno hst hne1 hne2 hch hcall
                obtain ⟨ci, ct, cb⟩ := c
                simp only [chA] at Z3
                obtain ⟨cz, fz, gz⟩ := unhide Z3
                clear gz
                go_wp2_with fail
                refine (unhide HN _).mono ?_
                rintro e0 w5 ⟨rfl, hb⟩
                have Y5 := hide (((unhide Y3).next hb).alloc (.cells #[.int .i64 sn, .int .i64 pc, .string regs, .string cells, .int .i64 clock, .int .i64 handler, .int .i64 back, .bool pending, .bool halted] 30))
                have B5 := hide (((unhide B3).trans (hb.mono (unhide B3).size)).alloc (Nat.le_trans (unhide B3).size hb.size) (.cells #[.int .i64 sn, .int .i64 pc, .string regs, .string cells, .int .i64 clock, .int .i64 handler, .int .i64 back, .bool pending, .bool halted] 30))
                clear hb cx fx cz fz
                go_upto_region 16 with fail
                generalize w5.alloc (.cells #[.int .i64 sn, .int .i64 pc, .string regs, .string cells, .int .i64 clock, .int .i64 handler, .int .i64 back, .bool pending, .bool halted] 30) = w6 at *
                obtain ⟨cy, fy, gy⟩ := unhide Y5
                clear gy
                have cq := (nine_boxR (unhide Y5) (.int .i64 0) (.int .i64 0) (.string ⟨#[]⟩) (.string ⟨#[]⟩) (.int .i64 0) (.int .i64 0) (.int .i64 0) (.bool false) (.bool false)).c
                go_wp2_with fail
                refine bodyPost_ret (v := .tuple #[.agg #[.int .i64 0, .int .i64 0, .string ⟨#[]⟩, .string ⟨#[]⟩, .int .i64 0, .int .i64 0, .int .i64 0, .bool false, .bool false], .bool false]) (by simp [results, Tryz.results63, go_sem, cq]) rfl ⟨rfl, ?_⟩
                repeat (refine Below.setCell ?_ (by simp) _)
                exact unhide B5
              · have hsn4 : sn < 10000 := by
                  rcases Int.lt_or_le sn 10000 with h | h
                  · exact h
                  · exact absurd (.inr h) hh
                have hhf : halted = false := by
                  cases halted with
                  | false => rfl
                  | true => exact absurd (.inl rfl) hh
                have hno : Hist.nextO p ⟨sn, pc, regs, cells, clock, handler, back, pending, halted⟩ c = some (Mach.next p ⟨sn, pc, regs, cells, clock, handler, back, pending, halted⟩ c) := by unfold Hist.nextO; rw [if_neg hh]
                have HU2 := hide ((unhide HUK).trans hno)
                have HN := hide (next_ref p (Mach.good_of hg) ⟨sn, pc, regs, cells, clock, handler, back, pending, halted⟩ c hleg hch hsn4 hhf)
                have hleg2 := Mach.next_legal (Mach.good_of hg) hleg hch hsn4
                have hnn := Mach.next_n p ⟨sn, pc, regs, cells, clock, handler, back, pending, halted⟩ c
                generalize Mach.next p ⟨sn, pc, regs, cells, clock, handler, back, pending, halted⟩ c = t at *
                generalize insOf p ⟨sn, pc, regs, cells, clock, handler, back, pending, halted⟩ c = ii at *
                obtain ⟨sn', pc', regs', cells', clock', handler', back', pending', halted'⟩ := t
                simp only at hnn
                have HNN := hide hnn
                have HK2 : Hid (e.s.n + ((k + 1 : Nat) : Int) ≤ n) := hide (by omega)
                have HLE := hide hleg2
                have HT3 := hide hsn4
                clear hh hno hnn hne1 hne2 hch hcall hhf hleg2 hsn4 hleg
                obtain ⟨ci, ct, cb⟩ := c
                simp only [chA] at Z3
                obtain ⟨cz, fz, gz⟩ := unhide Z3
                clear gz
                go_wp2_with fail
                refine (unhide HN _).mono ?_
                rintro e0 w5 ⟨rfl, hb⟩
                have X5 := hide (((unhide X3).next hb).alloc (.cells #[.int .i64 sn', .int .i64 pc', .string regs', .string cells', .int .i64 clock', .int .i64 handler', .int .i64 back', .bool pending', .bool halted'] 30))
                have Y5 := hide (((unhide Y3).next hb).alloc (.cells #[.int .i64 sn', .int .i64 pc', .string regs', .string cells', .int .i64 clock', .int .i64 handler', .int .i64 back', .bool pending', .bool halted'] 30))
                have V5 := hide (Box.new w5 #[.int .i64 sn', .int .i64 pc', .string regs', .string cells', .int .i64 clock', .int .i64 handler', .int .i64 back', .bool pending', .bool halted'] 30)
                have L5 := hide (((unhide L3).next hb).next ((Below.refl w5.heap.size w5).alloc (Nat.le_refl _) (.cells #[.int .i64 sn', .int .i64 pc', .string regs', .string cells', .int .i64 clock', .int .i64 handler', .int .i64 back', .bool pending', .bool halted'] 30)))
                have B5 := hide (((unhide B3).trans (hb.mono (unhide B3).size)).alloc (Nat.le_trans (unhide B3).size hb.size) (.cells #[.int .i64 sn', .int .i64 pc', .string regs', .string cells', .int .i64 clock', .int .i64 handler', .int .i64 back', .bool pending', .bool halted'] 30))
                have hlt5 := ((unhide X3).next hb).lt
                have hv1 : ¬ w5.heap.size = w.heap.size + 1 := by omega
                have hv2 : ¬ w.heap.size + 1 = w5.heap.size := by omega
                clear hb cx fx cz fz
                go_upto_region 16 with fail
                generalize w5.alloc (.cells #[.int .i64 sn', .int .i64 pc', .string regs', .string cells', .int .i64 clock', .int .i64 handler', .int .i64 back', .bool pending', .bool halted'] 30) = w6 at *
                obtain ⟨cx, fx, gx⟩ := unhide X5
                obtain ⟨cv, fv', gv⟩ := unhide V5
                clear gx gv
                have X6 := hide (nine_boxR (unhide X5) (.int .i64 sn') (.int .i64 pc') (.string regs') (.string cells') (.int .i64 clock') (.int .i64 handler') (.int .i64 back') (.bool pending') (.bool halted'))
                go_wp2_with fail
                go_roundw
                case rel =>
                  refine ⟨k + 1, ⟨sn', pc', regs', cells', clock', handler', back', pending', halted'⟩, unhide HK2, unhide HU2, unhide HLE, unhide X6, ?_, ?_, hbb, ?_⟩
                  · repeat (refine Box.off ?_ (by simp) _)
                    exact unhide Y5
                  · refine (unhide L5).keep (o := [w.heap.size + 1]) ?_ (by simp; omega)
                    repeat (refine Keeps.setCell ?_ (by simp) _)
                    exact Keeps.refl _ _
                  · repeat (refine Below.setCell ?_ (by simp) _)
                    exact unhide B5
                case measure =>
                  rw [leftAt_box (unhide X6) (k := .i64) (x := sn') rfl, leftAt_box (unhide X1) (k := .i64) (x := sn) rfl, unhide HNN]
                  omega
        · have HST : Hist.stood p l n = Hist.up p (l.drop (f + 1)) e.s (n - e.s.n).toNat := by
            unfold Hist.stood
            rw [← unhide HFR] at *
            rw [show l[f]? = some e from by rw [unhide HFR]; exact unhide HE]
          have hkk : (n - e.s.n).toNat = k := by omega
          rw [hkk, unhide HUP] at HST
          have hrr := unhide HRS
          rw [HST] at hrr
          simp only [Prod.mk.injEq] at hrr
          obtain ⟨rfl, rfl⟩ := hrr
          clear HST hkk hsn hk
          obtain ⟨sn, pc, regs, cells, clock, handler, back, pending, halted⟩ := rs
          simp only at hlt2
          simp only [stA] at cx
          obtain ⟨cy, fy, gy⟩ := unhide Y1
          clear gy
          have cq := (nine_boxR (unhide Y1) (.int .i64 sn) (.int .i64 pc) (.string regs) (.string cells) (.int .i64 clock) (.int .i64 handler) (.int .i64 back) (.bool pending) (.bool halted)).c
          go_wp2_with fail
          refine bodyPost_ret (v := .tuple #[.agg #[.int .i64 sn, .int .i64 pc, .string regs, .string cells, .int .i64 clock, .int .i64 handler, .int .i64 back, .bool pending, .bool halted], .bool true]) (by simp [results, Tryz.results63, go_sem, cq]) rfl ⟨rfl, ?_⟩
          repeat (refine Below.setCell ?_ (by simp) _)
          exact unhide B1
end Go.Proofs.YtcmoffiigpchiaaGreat

namespace Go.Proofs.YtcmoffiigpchiaaGreat
open Go.RowKit

theorem bounds_ref (p : ByteArray) (hp : p.size ≤ maxLen) (l : List Hist.En) (hR : Hist.IsRun l) (hl : l.length < 1000000) (v : Value) (n : Int) (w0 w : World) (hE : ERow w0 w v l) :
    Calls Tryz.prog 62 #[.string p, v, .int .i64 n] w fun e w' => e = .returned (.int .i64 (Hist.atErr p l n)) ∧ Below w.heap.size w w' := by
  by_cases h0 : l = []
  · have hv := hE.2.2 h0
    subst h0 hv
    exact bounds_none p hp n w
  · obtain ⟨g, cap, rfl⟩ := hE.some h0
    exact bounds_some p hp l hR h0 hl g cap n w (LiesE.of hE.1)
namespace Hist
theorem atErr_zero {p : ByteArray} {l : List En} {n : Int} (h : atErr p l n = 0) : (Code.chk p).1 = 0 ∧ l ≠ [] ∧ ¬ n < firstN l ∧ ¬ lastTo l < n := by
  unfold atErr at h
  split at h
  · rename_i h1; exact absurd h h1
  · rename_i h1
    split at h
    · cases h
    · rename_i h2
      split at h
      · cases h
      · rename_i h3
        split at h
        · cases h
        · rename_i h4
          exact ⟨by simpa using h1, h2, h3, h4⟩
theorem atOf_err {p : ByteArray} {l : List En} {n : Int} (h : atErr p l n ≠ 0) : atOf p l n = (Mach.zero, atErr p l n) := by
  unfold atOf
  rw [if_pos h]
theorem atErr_bound (p : ByteArray) (l : List En) (n : Int) : 0 ≤ atErr p l n ∧ atErr p l n ≤ 8 := by
  have := chk_bound p
  unfold atErr
  split
  · omega
  · split
    · omega
    · split
      · omega
      · split <;> omega
theorem atOf_bound (p : ByteArray) (l : List En) (n : Int) : 0 ≤ (atOf p l n).2 ∧ (atOf p l n).2 ≤ 9 := by
  have := atErr_bound p l n
  unfold atOf
  split
  · simp only; omega
  · split <;> simp
end Hist

set_option maxRecDepth 100000 in
set_option maxHeartbeats 4000000 in
theorem rat_ref (p t : ByteArray) (hp : p.size ≤ maxLen) (ht : t.size ≤ 1048576) (n : Int) (w : World) :
    Calls Tryz.prog 36 #[.string p, .string t, .int .i64 n] w fun e w' => e = .returned (.tuple #[(Hist.atOf p (Hist.run t) n).1.val, .int .i64 (Hist.atOf p (Hist.run t) n).2]) ∧ Below w.heap.size w w' := by
  have HRn := hide (run_ref t ht)
  have hn := Hist.run_length t
  have hR := Hist.run_isRun t
  have HBo := fun v w0 w1 => hide (fun hE => bounds_ref p hp (Hist.run t) hR (by omega) v n w0 w1 hE)
  by_cases h0 : Hist.atErr p (Hist.run t) n = 0
  · obtain ⟨hc, hne, h1, h2⟩ := Hist.atErr_zero h0
    have hT : Hist.Tells (Hist.run t) n := ⟨hR, hne, by omega⟩
    have hat := Hist.atOf_in hc hne h1 h2
    have HSt := fun g cap w1 => hide (fun hL rs ok hr => stood_ref p hc (Hist.run t) g cap n w1 hT (by omega) hL rs ok hr)
    have HSO : Hid (∀ w0 w1 v, ERow w0 w1 v (Hist.run t) → ∃ g cap, v = .slice (some ⟨g, 0, none⟩) (Hist.run t).length cap ∧ LiesE w1 g (Hist.run t)) := hide (fun w0 w1 v hE => by
      obtain ⟨g, cap, rfl⟩ := hE.some hne
      exact ⟨g, cap, rfl, LiesE.of hE.1⟩)
    rw [h0] at HBo
    cases hso : Hist.stood p (Hist.run t) n with
    | none =>
      rw [hso] at hat HSt
      simp only at hat
      rw [hat]
      clear hat hso hT hR hn h1 h2 hne hc h0
      generalize Hist.run t = l at *
      go_enter Tryz.func36, Tryz.ntmps36
      go_wp2_with fail
      refine (unhide HRn _).mono ?_
      rintro e w1 ⟨v, rfl, hE⟩
      have HE := hide hE
      have B1 := hide hE.2.1
      clear hE
      go_wp2_with fail
      refine (unhide (HBo _ _ _) (unhide HE)).mono ?_
      rintro e w2 ⟨rfl, hb⟩
      have E2 := hide ((unhide HE).next hb)
      have B2 := hide ((unhide B1).trans (hb.mono (unhide B1).size))
      clear hb
      obtain ⟨g, cap, rfl, hL⟩ := unhide HSO _ _ _ (unhide E2)
      have HL := hide hL
      clear hL
      have HS0 := hide (unhide (HSt g cap _) (unhide HL) Mach.zero false rfl)
      rw [show Mach.zero.val = .agg #[.int .i64 0, .int .i64 0, .string ⟨#[]⟩, .string ⟨#[]⟩, .int .i64 0, .int .i64 0, .int .i64 0, .bool false, .bool false] from rfl] at HS0
      go_wp2_with fail
      refine (unhide HS0).mono ?_
      rintro e w3 ⟨rfl, hb⟩
      have B3 := hide ((unhide B2).trans (hb.mono (unhide B2).size))
      have Y3 := hide (((Box.new w #[.int .i64 0, .int .i64 0, .string ⟨#[]⟩, .string ⟨#[]⟩, .int .i64 0, .int .i64 0, .int .i64 0, .bool false, .bool false] 30).next (unhide B3)).alloc (.cells #[.int .i64 0, .int .i64 0, .string ⟨#[]⟩, .string ⟨#[]⟩, .int .i64 0, .int .i64 0, .int .i64 0, .bool false, .bool false] 30))
      have B4 := hide ((bel_alloc (unhide B3)).alloc (Nat.le_trans (by simp) (unhide B3).size) (.cells #[.int .i64 0, .int .i64 0, .string ⟨#[]⟩, .string ⟨#[]⟩, .int .i64 0, .int .i64 0, .int .i64 0, .bool false, .bool false] 30))
      clear hb
      go_upto_region 6 with fail
      generalize w3.alloc (.cells #[.int .i64 0, .int .i64 0, .string ⟨#[]⟩, .string ⟨#[]⟩, .int .i64 0, .int .i64 0, .int .i64 0, .bool false, .bool false] 30) = w4 at *
      obtain ⟨cy, fy, gy⟩ := unhide Y3
      clear gy
      have cq := (nine_boxR (unhide Y3) (.int .i64 0) (.int .i64 0) (.string ⟨#[]⟩) (.string ⟨#[]⟩) (.int .i64 0) (.int .i64 0) (.int .i64 0) (.bool false) (.bool false)).c
      go_wp2_with fail
      refine bodyPost_ret (v := .tuple #[.agg #[.int .i64 0, .int .i64 0, .string ⟨#[]⟩, .string ⟨#[]⟩, .int .i64 0, .int .i64 0, .int .i64 0, .bool false, .bool false], .int .i64 9]) (by simp [results, Tryz.results36, go_sem, cq]) rfl ⟨rfl, ?_⟩
      repeat (refine Below.setCell ?_ (by simp) _)
      exact unhide B4
    | some s =>
      rw [hso] at hat HSt
      simp only at hat
      rw [hat]
      clear hat hso hT hR hn h1 h2 hne hc h0
      generalize Hist.run t = l at *
      obtain ⟨sn, pc, regs, cells, clock, handler, back, pending, halted⟩ := s
      go_enter Tryz.func36, Tryz.ntmps36
      go_wp2_with fail
      refine (unhide HRn _).mono ?_
      rintro e w1 ⟨v, rfl, hE⟩
      have HE := hide hE
      have B1 := hide hE.2.1
      clear hE
      go_wp2_with fail
      refine (unhide (HBo _ _ _) (unhide HE)).mono ?_
      rintro e w2 ⟨rfl, hb⟩
      have E2 := hide ((unhide HE).next hb)
      have B2 := hide ((unhide B1).trans (hb.mono (unhide B1).size))
      clear hb
      obtain ⟨g, cap, rfl, hL⟩ := unhide HSO _ _ _ (unhide E2)
      have HL := hide hL
      clear hL
      go_wp2_with fail
      refine (unhide (HSt g cap _) (unhide HL) ⟨sn, pc, regs, cells, clock, handler, back, pending, halted⟩ true rfl).mono ?_
      rintro e w3 ⟨rfl, hb⟩
      have B3 := hide ((unhide B2).trans (hb.mono (unhide B2).size))
      have Y3 := hide (((Box.new w #[.int .i64 0, .int .i64 0, .string ⟨#[]⟩, .string ⟨#[]⟩, .int .i64 0, .int .i64 0, .int .i64 0, .bool false, .bool false] 30).next (unhide B3)).alloc (.cells #[.int .i64 sn, .int .i64 pc, .string regs, .string cells, .int .i64 clock, .int .i64 handler, .int .i64 back, .bool pending, .bool halted] 30))
      have V3 := hide (Box.new w3 #[.int .i64 sn, .int .i64 pc, .string regs, .string cells, .int .i64 clock, .int .i64 handler, .int .i64 back, .bool pending, .bool halted] 30)
      have hlt := ((Box.new w #[.int .i64 0, .int .i64 0, .string ⟨#[]⟩, .string ⟨#[]⟩, .int .i64 0, .int .i64 0, .int .i64 0, .bool false, .bool false] 30).next (unhide B3)).lt
      have q1 : ¬ w3.heap.size = w.heap.size := by omega
      have q2 : ¬ w.heap.size = w3.heap.size := by omega
      have B4 := hide ((bel_alloc (unhide B3)).alloc (Nat.le_trans (by simp) (unhide B3).size) (.cells #[.int .i64 sn, .int .i64 pc, .string regs, .string cells, .int .i64 clock, .int .i64 handler, .int .i64 back, .bool pending, .bool halted] 30))
      clear hb
      go_upto_region 6 with fail
      generalize w3.alloc (.cells #[.int .i64 sn, .int .i64 pc, .string regs, .string cells, .int .i64 clock, .int .i64 handler, .int .i64 back, .bool pending, .bool halted] 30) = w4 at *
      obtain ⟨cy, fy, gy⟩ := unhide Y3
      obtain ⟨cv, fv', gv⟩ := unhide V3
      clear gy gv
      have cq := (nine_boxR (unhide Y3) (.int .i64 sn) (.int .i64 pc) (.string regs) (.string cells) (.int .i64 clock) (.int .i64 handler) (.int .i64 back) (.bool pending) (.bool halted)).c
      go_wp2_with fail
      refine bodyPost_ret (v := .tuple #[.agg #[.int .i64 sn, .int .i64 pc, .string regs, .string cells, .int .i64 clock, .int .i64 handler, .int .i64 back, .bool pending, .bool halted], .int .i64 0]) (by simp [results, Tryz.results36, go_sem, cq]) rfl ⟨rfl, ?_⟩
      repeat (refine Below.setCell ?_ (by simp) _)
      exact unhide B4
  · rw [Hist.atOf_err h0]
    have d : (Hist.atErr p (Hist.run t) n != 0) = true := by simp [h0]
    generalize Hist.atErr p (Hist.run t) n = er at *
    generalize Hist.run t = l at *
    clear h0 hR hn
    go_enter Tryz.func36, Tryz.ntmps36
    go_wp2_with fail
    refine (unhide HRn _).mono ?_
    rintro e w1 ⟨v, rfl, hE⟩
    have HE := hide hE
    have B1 := hide hE.2.1
    clear hE
    go_wp2_with fail
    refine (unhide (HBo _ _ _) (unhide HE)).mono ?_
    rintro e w2 ⟨rfl, hb⟩
    have B2 := hide ((unhide B1).trans (hb.mono (unhide B1).size))
    have Y2 := hide ((Box.new w #[.int .i64 0, .int .i64 0, .string ⟨#[]⟩, .string ⟨#[]⟩, .int .i64 0, .int .i64 0, .int .i64 0, .bool false, .bool false] 30).next (unhide B2))
    clear hb
    obtain ⟨cy, fy, gy⟩ := unhide Y2
    clear gy
    have cq := (nine_boxR (unhide Y2) (.int .i64 0) (.int .i64 0) (.string ⟨#[]⟩) (.string ⟨#[]⟩) (.int .i64 0) (.int .i64 0) (.int .i64 0) (.bool false) (.bool false)).c
    go_wp2_with fail
    refine bodyPost_ret (v := .tuple #[.agg #[.int .i64 0, .int .i64 0, .string ⟨#[]⟩, .string ⟨#[]⟩, .int .i64 0, .int .i64 0, .int .i64 0, .bool false, .bool false], .int .i64 er]) (by simp [results, Tryz.results36, go_sem, cq]) rfl ⟨rfl, ?_⟩
    repeat (refine Below.setCell ?_ (by simp) _)
    exact bel_alloc (unhide B2)
end Go.Proofs.YtcmoffiigpchiaaGreat

namespace Go.Proofs.YtcmoffiigpchiaaGreat
open Go.RowKit

set_option maxRecDepth 100000 in
set_option maxHeartbeats 4000000 in
theorem at_law (p t : ByteArray) (hp : p.size ≤ maxLen) (ht : t.size ≤ 1048576) (n : Int) (w : World) :
    Calls Tryz.prog 18 #[.string p, .string t, .int .i64 n] w fun e w' => e = .returned (.bool true) ∧ Below w.heap.size w w' := by
  have H1 := hide (at_api p t hp ht n)
  have H2 := hide (rat_ref p t hp ht n)
  have hb := Hist.atOf_bound p (Hist.run t) n
  generalize Hist.atOf p (Hist.run t) n = A at *
  obtain ⟨⟨sn, pc, regs, cells, clock, handler, back, pending, halted⟩, er⟩ := A
  simp only at hb H1 H2
  have H3 := hide (num_law er (by omega))
  have H4 := hide (same_law ⟨sn, pc, regs, cells, clock, handler, back, pending, halted⟩)
  clear hb
  go_enter Tryz.func18, Tryz.ntmps18
  go_wp2_with fail
  refine (unhide H1 _).mono ?_
  rintro e w1 ⟨rfl, hb⟩
  have B1 := hide hb
  clear hb
  go_wp2_with fail
  refine (unhide H2 _).mono ?_
  rintro e w2 ⟨rfl, hb⟩
  have X2 := hide ((Box.new w1 #[.int .i64 sn, .int .i64 pc, .string regs, .string cells, .int .i64 clock, .int .i64 handler, .int .i64 back, .bool pending, .bool halted] 30).next hb)
  have B2 := hide ((unhide B1).trans ((bel_alloc hb).mono (unhide B1).size))
  have hlt := (unhide X2).lt
  clear hb
  go_upto_region 3 with fail
  have X3 := hide ((unhide X2).alloc (.cells #[.int .i64 sn, .int .i64 pc, .string regs, .string cells, .int .i64 clock, .int .i64 handler, .int .i64 back, .bool pending, .bool halted] 30))
  have Y3 := hide (Box.new w2 #[.int .i64 sn, .int .i64 pc, .string regs, .string cells, .int .i64 clock, .int .i64 handler, .int .i64 back, .bool pending, .bool halted] 30)
  have B3 := hide ((unhide B2).alloc (unhide B2).size (.cells #[.int .i64 sn, .int .i64 pc, .string regs, .string cells, .int .i64 clock, .int .i64 handler, .int .i64 back, .bool pending, .bool halted] 30))
  generalize w2.alloc (.cells #[.int .i64 sn, .int .i64 pc, .string regs, .string cells, .int .i64 clock, .int .i64 handler, .int .i64 back, .bool pending, .bool halted] 30) = w3 at *
  obtain ⟨cx, fx, gx⟩ := unhide X3
  obtain ⟨cy, fy, gy⟩ := unhide Y3
  clear gx gy
  go_wp2_with fail
  refine (unhide H4 _).mono ?_
  rintro e w4 ⟨rfl, hb⟩
  have B4 := hide ((unhide B3).trans (hb.mono (unhide B3).size))
  clear hb cx fx cy fy
  go_wp2_with fail
  refine (unhide H3 _).mono ?_
  rintro e w5 ⟨rfl, hw⟩
  obtain rfl := hw.symm
  go_wp2_with fail
  refine (unhide H3 _).mono ?_
  rintro e w5 ⟨rfl, hw⟩
  obtain rfl := hw.symm
  go_wp2_with fail
  go_ret
  exact ⟨by simp, unhide B4⟩

set_option maxRecDepth 100000 in
set_option maxHeartbeats 1000000 in
theorem step_at (o : OpV) (ho : o.Ok) (hs : o.Small) (hk : o.kind = 10) (p : Value) (w : World) :
    Calls Tryz.prog 11 #[p, o.val] w fun e w' => e = .returned (.bool true) ∧ Below w.heap.size w w' := by
  have H := hide (at_law o.p o.b ho.p hs.b o.x)
  clear hs ho
  obtain ⟨kind, m, pp, b, ⟨n, pc, regs, cells, clock, handler, back, pending, halted⟩, ⟨input, ticks, interrupt⟩, x, y⟩ := o
  simp only at hk
  subst hk
  unfold OpV.val OpV.cells
  simp only at *
  go_enter Tryz.func11, Tryz.ntmps11
  go_wp2_with (go_at_call 18; refine (unhide H _).mono ?_; rintro e w' ⟨rfl, hb⟩)
  go_ret
  exact ⟨rfl, bel_alloc hb⟩
end Go.Proofs.YtcmoffiigpchiaaGreat
