import Derived.Test.YtcmoffiigpchiaaKeepK
import Derived.Test.YtcmoffiigpchiaaPaF
namespace Go.Proofs.Ytcmoffiigpchiaa
open Go.RowKit
namespace Keep

theorem rowS_at (l : List StV) : ∀ (i : Nat) s, l[i]? = some s → ∀ (j : Nat) v, (stC s)[j]? = some v → (rowS l)[i * 9 + j]? = some v := by
  induction l with
  | nil => intro i s h; simp at h
  | cons a r ih =>
    intro i s hi j v hv
    show (stC a ++ rowS r)[i * 9 + j]? = some v
    have h9 : (stC a).length = 9 := rfl
    cases i with
    | zero =>
      simp at hi
      subst hi
      have hj := (List.getElem?_eq_some_iff.1 hv).1
      rw [List.getElem?_append_left (by omega), Nat.zero_mul, Nat.zero_add]
      exact hv
    | succ i =>
      rw [List.getElem?_append_right (by omega), h9, show (i + 1) * 9 + j - 9 = i * 9 + j by omega]
      exact ih i s (by simpa using hi) j v hv
/-- A state lies where it is looked for. -/
theorem FilmAt.nth {w : World} {B fb xb r cap : Nat} {p : ByteArray} {m : RM} {l : List StV} {sv : Int} (h : FilmAt w B fb xb r cap p m l sv) {i : Nat} {s : StV} (hi : l[i]? = some s) : w.rangeAt r (i * 9) (stC s) := by
  intro j v hv
  have := h.row.cells (g := r) rfl (i * 9 + j) v (rowS_at l i s hi j v hv)
  rw [Addr.add_mid, Nat.zero_add] at this
  exact this

set_option maxRecDepth 100000 in
set_option maxHeartbeats 2000000 in
/-- A text that tells just what there was. -/
theorem shows_k (B fb xb r cap : Nat) (p : ByteArray) (m : RM) (l : List StV) (sv : Int) (hu : l.length ≤ 10001) (hp : p.size ≤ maxLen) (t : ByteArray) (ht : t.size ≤ 1048576) (M : List Hist.En) (hS : Hist.Shows p t l M) (w : World) (hF : FilmAt w B fb xb r cap p m l sv) :
    Calls Try.prog 13 #[.pointer (some ⟨fb, 0, none⟩), .string t] w fun e w' => e = .returned (.tuple #[.int .i64 (Hist.lastTo M), .bool true]) ∧ Below w.heap.size w w' := by
  have HSp := hide (span_api t ht)
  have HAt := fun n => hide (at_api p t hp ht n)
  have hse : Hist.spanErr M = 0 := by unfold Hist.spanErr; simp [hS.ne]
  rw [hS.run, hse] at HSp
  simp only [hS.run] at HAt
  have HA := hide hS.at_
  have h1 := hS.lo
  have h2 := hS.le
  have h3 := hS.hi
  have HE := fun n => hide (hS.early n)
  have HLt := fun n => hide (hS.late n)
  have HSm := hide (fun s => same_k s)
  have F0 := hide hF
  clear hS hse hF
  generalize Hist.firstN M = lo at *
  generalize Hist.lastTo M = hi at *
  obtain ⟨at0, hat0⟩ : ∃ f, f = fun n => Hist.atOf p M n := ⟨_, rfl⟩
  have HAT : Hid (∀ n, Hist.atOf p M n = at0 n) := hide (fun n => by rw [hat0])
  simp only [unhide HAT] at HA HE HLt HAt
  clear HAT hat0
  obtain ⟨c0, f0, g0⟩ := (unhide F0).box
  clear g0
  go_enter Try.func13, Try.ntmps13
  go_wp2_with fail
  refine (unhide HSp _).mono ?_
  rintro e w1 ⟨rfl, hb⟩
  have F1 := hide ((unhide F0).next hb)
  have B1 := hide hb
  clear hb c0 f0
  obtain ⟨c0, f0, g0⟩ := (unhide F1).box
  clear g0
  have n1 : ¬ lo < 0 := by omega
  have n2 : ¬ hi < lo := by omega
  have n3 : ¬ (l.length : Int) ≤ hi := by omega
  go_wp2_with fail
  go_loopw [9] (fun i wr => ∃ q : Nat, i = .int .i64 q ∧ lo ≤ q ∧ (q : Int) ≤ hi + 1 ∧ Below w.heap.size w wr) (fun i _ => (hi + 1 - intOf i).toNat)
  case atStart => exact ⟨lo.toNat, by rw [show ((lo.toNat : Nat) : Int) = lo by omega], by omega, by omega, unhide B1⟩
  case round =>
    obtain ⟨q, rfl, hq1, hq2, hB⟩ := hrel
    have B2 := hide hB
    have F2 := hide ((unhide F0).next hB)
    clear hB c0 f0
    obtain ⟨c0, f0, g0⟩ := (unhide F2).box
    clear g0
    by_cases hlt : (q : Int) ≤ hi
    · obtain ⟨x, hx, hax⟩ := unhide HA q hq1 hlt
      rw [Int.toNat_natCast] at hx
      have HAq := hide (unhide (HAt q))
      rw [hax] at HAq
      have HX := hide hx
      have hql : q < l.length := by omega
      have HSx := hide (unhide HSm x)
      clear hax hx
      obtain ⟨n0, pc0, regs0, cells0, clock0, handler0, back0, pending0, halted0⟩ := x
      simp only [StV.val] at HAq HSx
      have hq10 : q < 10001 := by omega
      go_upto_region 8 with (go_at_call 18; refine (unhide HAq _).mono ?_; rintro e w3 ⟨rfl, hb⟩; have F3 := hide ((unhide F2).next hb); have B3 := hide ((unhide B2).trans (hb.mono (unhide B2).size)); clear hb c0 f0; obtain ⟨c0, f0, g0⟩ := (unhide F3).box; clear g0)
      have hfl3 := (unhide F3).box.lt
      have hrl3 := ((unhide F3).row.lt r rfl).2
      have S4 := hide (Box.new w3 #[.int .i64 n0, .int .i64 pc0, .string regs0, .string cells0, .int .i64 clock0, .int .i64 handler0, .int .i64 back0, .bool pending0, .bool halted0] 42)
      have F4 := hide ((unhide F3).next ((Below.refl w3.heap.size w3).alloc (Nat.le_refl _) (.cells #[.int .i64 n0, .int .i64 pc0, .string regs0, .string cells0, .int .i64 clock0, .int .i64 handler0, .int .i64 back0, .bool pending0, .bool halted0] 42)))
      have B4 := hide ((unhide B3).alloc (unhide B3).size (.cells #[.int .i64 n0, .int .i64 pc0, .string regs0, .string cells0, .int .i64 clock0, .int .i64 handler0, .int .i64 back0, .bool pending0, .bool halted0] 42))
      generalize w3.alloc (.cells #[.int .i64 n0, .int .i64 pc0, .string regs0, .string cells0, .int .i64 clock0, .int .i64 handler0, .int .i64 back0, .bool pending0, .bool halted0] 42) = w4 at *
      clear c0 f0
      obtain ⟨c0, f0, g0⟩ := (unhide F4).box
      obtain ⟨cs, fs, gs⟩ := unhide S4
      have hrng := (unhide F4).nth (unhide HX)
      have l0 : w4.cell? ⟨r, q * 9, none⟩ = some (.int .i64 n0) := hrng 0 _ rfl
      have l1 := hrng 1 _ rfl
      have l2 := hrng 2 _ rfl
      have l3 := hrng 3 _ rfl
      have l4 := hrng 4 _ rfl
      have l5 := hrng 5 _ rfl
      have l6 := hrng 6 _ rfl
      have l7 := hrng 7 _ rfl
      have l8 := hrng 8 _ rfl
      clear hrng g0 gs
      have hqi : (q : Int) < (l.length : Int) := by omega
      go_cut [12] from 45 to 75 (fun x wx => x = .bool true ∧ Below w.heap.size w wx)
      case first =>
        go_region_held3 (fun w' => w'.cell? ⟨fb, 2, none⟩ = some (.slice (some ⟨r, 0, none⟩) l.length cap) ∧ w'.cell? ⟨w3.heap.size, 0, none⟩ = some (.int .i64 n0) ∧ w'.cell? ⟨w3.heap.size, 1, none⟩ = some (.int .i64 pc0) ∧ w'.cell? ⟨w3.heap.size, 2, none⟩ = some (.string regs0) ∧ w'.cell? ⟨w3.heap.size, 3, none⟩ = some (.string cells0) ∧ w'.cell? ⟨w3.heap.size, 4, none⟩ = some (.int .i64 clock0) ∧ w'.cell? ⟨w3.heap.size, 5, none⟩ = some (.int .i64 handler0) ∧ w'.cell? ⟨w3.heap.size, 6, none⟩ = some (.int .i64 back0) ∧ w'.cell? ⟨w3.heap.size, 7, none⟩ = some (.bool pending0) ∧ w'.cell? ⟨w3.heap.size, 8, none⟩ = some (.bool halted0) ∧ w'.cell? ⟨r, q * 9, none⟩ = some (.int .i64 n0) ∧ w'.cell? ⟨r, q * 9 + 1, none⟩ = some (.int .i64 pc0) ∧ w'.cell? ⟨r, q * 9 + 2, none⟩ = some (.string regs0) ∧ w'.cell? ⟨r, q * 9 + 3, none⟩ = some (.string cells0) ∧ w'.cell? ⟨r, q * 9 + 4, none⟩ = some (.int .i64 clock0) ∧ w'.cell? ⟨r, q * 9 + 5, none⟩ = some (.int .i64 handler0) ∧ w'.cell? ⟨r, q * 9 + 6, none⟩ = some (.int .i64 back0) ∧ w'.cell? ⟨r, q * 9 + 7, none⟩ = some (.bool pending0) ∧ w'.cell? ⟨r, q * 9 + 8, none⟩ = some (.bool halted0)) (first | go_keep | (go_simp; done)) (first | (go_at_call 24; refine (unhide HSx _).mono ?_; rintro e w5 ⟨rfl, hb⟩; have L5 := hide (bel_undrew hb); clear hb; have F5 := hide ((unhide F4).next (unhide L5)); have S5 := hide ((unhide S4).next (unhide L5)); have hrng := (unhide F5).nth (unhide HX); have l0 : w5.cell? ⟨r, q * 9, none⟩ = some (.int .i64 n0) := hrng 0 _ rfl; have l1 := hrng 1 _ rfl; have l2 := hrng 2 _ rfl; have l3 := hrng 3 _ rfl; have l4 := hrng 4 _ rfl; have l5 := hrng 5 _ rfl; have l6 := hrng 6 _ rfl; have l7 := hrng 7 _ rfl; have l8 := hrng 8 _ rfl; clear hrng; obtain ⟨c3, f3, g3⟩ := (unhide F5).box; obtain ⟨c4, f4, g4⟩ := unhide S5))
        all_goals
          go_wp2_with fail
          go_meet
          case rel => exact ⟨rfl, (unhide B4).trans ((unhide L5).mono (unhide B4).size)⟩
      case rest =>
        obtain ⟨rfl, hB⟩ := hcut
        have B6 := hide hB
        clear hB l0 l1 l2 l3 l4 l5 l6 l7 l8 c0 f0 cs fs
        go_wp2_with fail
        go_roundw
        case rel => exact ⟨q + 1, by go_num, by omega, by omega, unhide B6⟩
        case measure => simp [intOf]; omega
    · have hqq : (q : Int) = hi + 1 := by omega
      have HE1 := hide (unhide (HAt (lo - 1)))
      rw [unhide (HE (lo - 1)) (by omega)] at HE1
      have HL1 := hide (unhide (HAt (hi + 1)))
      rw [unhide (HLt (hi + 1)) (by omega)] at HL1
      simp only [StV.val, Mach.zero] at HE1 HL1
      have hw1 : wrap64 (lo - 1) = lo - 1 := by unfold wrap64; omega
      have hw2 : wrap64 (hi + 1) = hi + 1 := by unfold wrap64; omega
      clear hqq HA HE HLt HAt
      go_wp2_with fail
      refine (unhide HE1 _).mono ?_
      rintro e w3 ⟨rfl, hb⟩
      have B3 := hide ((unhide B2).trans (hb.mono (unhide B2).size))
      have B4 := hide ((unhide B3).alloc (unhide B3).size (.cells #[.int .i64 0, .int .i64 0, .string ByteArray.empty, .string ByteArray.empty, .int .i64 0, .int .i64 0, .int .i64 0, .bool false, .bool false] 42))
      have F4 := hide ((unhide F0).next (unhide B4))
      clear hb c0 f0
      go_upto_region 12 with fail
      generalize w3.alloc (.cells #[.int .i64 0, .int .i64 0, .string ByteArray.empty, .string ByteArray.empty, .int .i64 0, .int .i64 0, .int .i64 0, .bool false, .bool false] 42) = w4 at *
      obtain ⟨c0, f0, g0⟩ := (unhide F4).box
      clear g0
      go_wp2_with fail
      refine (unhide HL1 _).mono ?_
      rintro e w5 ⟨rfl, hb⟩
      have B5 := hide ((unhide B4).trans (hb.mono (unhide B4).size))
      have B6 := hide ((unhide B5).alloc (unhide B5).size (.cells #[.int .i64 0, .int .i64 0, .string ByteArray.empty, .string ByteArray.empty, .int .i64 0, .int .i64 0, .int .i64 0, .bool false, .bool false] 42))
      clear hb c0 f0
      go_upto_region 13 with fail
      generalize w5.alloc (.cells #[.int .i64 0, .int .i64 0, .string ByteArray.empty, .string ByteArray.empty, .int .i64 0, .int .i64 0, .int .i64 0, .bool false, .bool false] 42) = w6 at *
      go_wp2_with fail
      refine bodyPost_ret (v := .tuple #[.int .i64 hi, .bool true]) (by simp [results, Try.results13, go_sem]) rfl ⟨rfl, ?_⟩
      exact unhide B6
end Keep
end Go.Proofs.Ytcmoffiigpchiaa
