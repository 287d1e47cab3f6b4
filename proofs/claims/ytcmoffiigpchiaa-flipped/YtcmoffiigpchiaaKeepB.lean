import Derived.Test.YtcmoffiigpchiaaKeepA
import Derived.Test.YtcmoffiigpchiaaRefCheckW
import Derived.Test.YtcmoffiigpchiaaBase
import Derived.Deep.QuietTactic
import Derived.BigQuiet
import Derived.Deep.MidRow
namespace Go.Proofs.Ytcmoffiigpchiaa
open Go.RowKit
namespace Keep

/-- The sign of a digit or a place. -/
def digB (i : Nat) : Nat := if i < 10 then 48 + i else 87 + i
def letB (kind k : Nat) : Nat := if kind = 114 then digB (10 + k % 4) else if kind = 100 then digB (k % 16) else if kind = 112 then digB (k % 32) else 46
def oneB (b : Nat) : ByteArray := ⟨#[UInt8.ofNat b]⟩
theorem oneB_size (b : Nat) : (oneB b).size = 1 := rfl
def digits : ByteArray := ⟨#[48, 49, 50, 51, 52, 53, 54, 55, 56, 57, 97, 98, 99, 100, 101, 102, 103, 104, 105, 106, 107, 108, 109, 110, 111, 112, 113, 114, 115, 116, 117, 118]⟩
def signs : ByteArray := ⟨#[61, 43, 45, 60, 62, 40, 41, 63, 35, 106, 122, 105, 109, 101, 104]⟩
theorem digits_at : ∀ i, i < 32 → digits.extract i (i + 1) = oneB (digB i) := by decide +kernel
theorem signs_at : ∀ i, i < 15 → signs.extract i (i + 1) = oneB (Code.sg i) := by decide +kernel
theorem digits_size : digits.size = 32 := rfl
theorem signs_size : signs.size = 15 := rfl

set_option maxRecDepth 100000 in
set_option maxHeartbeats 1000000 in
theorem letter_k (kind k : Nat) (hk : k < 1099511627776) (w : World) :
    Calls Try.prog 20 #[.int .u8 kind, .int .i64 k] w fun e w' => e = .returned (.string (oneB (letB kind k))) ∧ w' = w := by
  have dk : Hid (digits = ⟨#[48, 49, 50, 51, 52, 53, 54, 55, 56, 57, 97, 98, 99, 100, 101, 102, 103, 104, 105, 106, 107, 108, 109, 110, 111, 112, 113, 114, 115, 116, 117, 118]⟩) := hide rfl
  by_cases h1 : kind = 114
  · have d1 : ((kind : Int) == 114) = true := by simp [h1]
    have e : letB kind k = digB (10 + k % 4) := by simp [letB, h1]
    have hd := digits_at (10 + k % 4) (by omega)
    rw [e]
    clear e h1
    have hm : (k : Int) % 4 = ((k % 4 : Nat) : Int) := by omega
    have hml : k % 4 < 4 := by omega
    generalize k % 4 = j at *
    rw [unhide dk] at hd
    have HD := hide hd
    clear hd
    go_enter Try.func20, Try.ntmps20
    go_wp2
    go_ret
    exact ⟨by rw [← unhide HD]; rfl, rfl⟩
  · have d1 : ((kind : Int) == 114) = false := by simp; omega
    by_cases h2 : kind = 100
    · have d2 : ((kind : Int) == 100) = true := by simp [h2]
      have e : letB kind k = digB (k % 16) := by simp [letB, h2]
      have hd := digits_at (k % 16) (by omega)
      rw [e]
      clear e h2 h1
      have hm : (k : Int) % 16 = ((k % 16 : Nat) : Int) := by omega
      have hml : k % 16 < 16 := by omega
      generalize k % 16 = j at *
      rw [unhide dk] at hd
      have HD := hide hd
      clear hd
      go_enter Try.func20, Try.ntmps20
      go_wp2
      go_ret
      exact ⟨by rw [← unhide HD]; rfl, rfl⟩
    · have d2 : ((kind : Int) == 100) = false := by simp; omega
      by_cases h3 : kind = 112
      · have d3 : ((kind : Int) == 112) = true := by simp [h3]
        have e : letB kind k = digB (k % 32) := by simp [letB, h3]
        have hd := digits_at (k % 32) (by omega)
        rw [e]
        clear e h3 h2 h1
        have hm : (k : Int) % 32 = ((k % 32 : Nat) : Int) := by omega
        have hml : k % 32 < 32 := by omega
        generalize k % 32 = j at *
        rw [unhide dk] at hd
        have HD := hide hd
        clear hd
        go_enter Try.func20, Try.ntmps20
        go_wp2
        go_ret
        exact ⟨by rw [← unhide HD]; rfl, rfl⟩
      · have d3 : ((kind : Int) == 112) = false := by simp; omega
        have e : letB kind k = 46 := by simp [letB, h1, h2, h3]
        rw [e]
        clear e h1 h2 h3
        go_enter Try.func20, Try.ntmps20
        go_wp2
        go_ret
        exact ⟨rfl, rfl⟩

/-- The instruction of a raw number. -/
def insB (raw : Int) : ByteArray :=
  oneB (Code.sg (kp raw 1099511627776 % 15)) ++ oneB (letB (Code.sc2 (kp raw 1099511627776 % 15)) (kp raw 1099511627776 / 15 % 4)) ++ oneB (letB (Code.sc3 (kp raw 1099511627776 % 15)) (kp raw 1099511627776 / 15 / 4))
def progB (V : Nat → Int) : Nat → ByteArray
  | 0 => ⟨#[]⟩
  | j + 1 => progB V j ++ insB (V j)
theorem insB_size (r : Int) : (insB r).size = 3 := rfl
theorem progB_size (V : Nat → Int) (j : Nat) : (progB V j).size = 3 * j := by
  induction j with
  | zero => rfl
  | succ j ih =>
    show (progB V j ++ insB (V j)).size = _
    rw [ByteArray.size_append, ih, insB_size]
    omega
theorem byt_progB (V : Nat → Int) (j : Nat) : ∀ i r, i < j → r < 3 → Code.byt (progB V j) (3 * i + r) = Code.byt (insB (V i)) r := by
  induction j with
  | zero => intro i r h; omega
  | succ j ih =>
    intro i r h hr
    show Code.byt (progB V j ++ insB (V j)) (3 * i + r) = _
    by_cases hi : i < j
    · rw [byt_left (by rw [progB_size]; omega)]
      exact ih i r hi hr
    · have : i = j := by omega
      subst this
      have hz := progB_size V i
      rw [show 3 * i + r = (progB V i).size + r by omega, byt_right (by rw [insB_size]; exact hr)]
theorem byt_oneB (b : Nat) (hb : b < 256) : Code.byt (oneB b) 0 = b := by
  show (UInt8.ofNat b).toNat = b
  simp
  omega
theorem digB_lt (i : Nat) (h : i < 32) : digB i < 256 := by unfold digB; split <;> omega
theorem letB_lt (c k : Nat) : letB c k < 256 := by
  unfold letB
  repeat' split
  · exact digB_lt _ (by omega)
  · exact digB_lt _ (by omega)
  · exact digB_lt _ (by omega)
  · omega
theorem stand_letB (c k : Nat) (hc : c = 114 ∨ c = 100 ∨ c = 112 ∨ c = 46) : Code.stand c (letB c k) = true := by
  rcases hc with rfl | rfl | rfl | rfl
  · have e : letB 114 k = 97 + k % 4 := by
      simp only [letB, digB, if_true]
      rw [if_neg (by omega)]
      omega
    rw [e]
    simp [Code.stand]
    omega
  · by_cases h : k % 16 < 10
    · have e : letB 100 k = 48 + k % 16 := by simp [letB, digB, h]
      rw [e]
      simp [Code.stand]
      omega
    · have e : letB 100 k = 87 + k % 16 := by simp [letB, digB, h]
      rw [e]
      simp [Code.stand]
      omega
  · by_cases h : k % 32 < 10
    · have e : letB 112 k = 48 + k % 32 := by simp [letB, digB, h]
      rw [e]
      simp [Code.stand]
      omega
    · have e : letB 112 k = 87 + k % 32 := by simp [letB, digB, h]
      rw [e]
      simp [Code.stand]
      omega
  · simp [Code.stand, letB]
theorem byt_insB (r : Int) : Code.byt (insB r) 0 = Code.sg (kp r 1099511627776 % 15) ∧ Code.byt (insB r) 1 = letB (Code.sc2 (kp r 1099511627776 % 15)) (kp r 1099511627776 / 15 % 4) ∧ Code.byt (insB r) 2 = letB (Code.sc3 (kp r 1099511627776 % 15)) (kp r 1099511627776 / 15 / 4) := by
  unfold insB
  have hn : kp r 1099511627776 % 15 < 15 := Nat.mod_lt _ (by decide)
  generalize kp r 1099511627776 % 15 = n at *
  generalize kp r 1099511627776 / 15 = q at *
  have ht := Code.table n hn
  refine ⟨?_, ?_, ?_⟩
  · rw [byt_left (by rw [ByteArray.size_append, oneB_size, oneB_size]; omega), byt_left (by rw [oneB_size]; omega)]
    exact byt_oneB _ ht.2.2.2.1
  · rw [byt_left (by rw [ByteArray.size_append, oneB_size, oneB_size]; omega)]
    exact (byt_right (a := oneB (Code.sg n)) (j := 0) (by rw [oneB_size]; omega)).trans (byt_oneB _ (letB_lt _ _))
  · exact (byt_right (a := oneB (Code.sg n) ++ oneB (letB (Code.sc2 n) (q % 4))) (j := 0) (by rw [oneB_size]; omega)).trans (byt_oneB _ (letB_lt _ _))
theorem sc_kinds : ∀ n, n < 15 → (Code.sc2 n = 114 ∨ Code.sc2 n = 100 ∨ Code.sc2 n = 112 ∨ Code.sc2 n = 46) ∧ (Code.sc3 n = 114 ∨ Code.sc3 n = 100 ∨ Code.sc3 n = 112 ∨ Code.sc3 n = 46) := by decide
/-- It is a program. -/
theorem progB_good (V : Nat → Int) (j : Nat) (hj : j ≤ 32) : (Code.chk (progB V j)).1 = 0 := by
  have hz := progB_size V j
  rw [Code.chk_ok (by omega) (fun i hi => ?_) (by omega)]
  have hq : i / 3 < j := by omega
  have b0 := byt_progB V j (i / 3) 0 hq (by omega)
  have bi := byt_progB V j (i / 3) (i % 3) hq (by omega)
  rw [show 3 * (i / 3) + i % 3 = i by omega] at bi
  rw [show 3 * (i / 3) + 0 = i / 3 * 3 by omega] at b0
  obtain ⟨c0, c1, c2⟩ := byt_insB (V (i / 3))
  have hn : kp (V (i / 3)) 1099511627776 % 15 < 15 := Nat.mod_lt _ (by decide)
  unfold Code.okAt
  rw [b0, bi, c0]
  generalize kp (V (i / 3)) 1099511627776 % 15 = n at *
  obtain ⟨t1, t2, t3, t4, t5, t6⟩ := Code.table n hn
  obtain ⟨k1, k2⟩ := sc_kinds n hn
  have hr : i % 3 = 0 ∨ i % 3 = 1 ∨ i % 3 = 2 := by omega
  rcases hr with hr | hr | hr
  · rw [hr, c0]
    simp [Code.okB, t1, t3]
  · rw [hr, c1]
    simp only [Code.okB, show ¬ (1 : Nat) = 0 by omega, if_false, if_true, t1]
    exact stand_letB _ _ k1
  · rw [hr, c2]
    simp only [Code.okB, show ¬ (2 : Nat) = 0 by omega, show ¬ (2 : Nat) = 1 by omega, if_false, t2]
    exact stand_letB _ _ k2
end Keep
end Go.Proofs.Ytcmoffiigpchiaa
