import Derived.Test.YtcmoffiigpchiaaGreatStP
import Derived.Test.YtcmoffiigpchiaaGreatCheckW
namespace Go.Proofs.YtcmoffiigpchiaaGreat
open Go.RowKit

theorem kind1_code (op : Nat) (w : World) : Calls Tryz.prog 70 #[.int .u8 op, .int .i64 1] w fun e w' => e = .returned (.int .i64 (Code.sec op)) ∧ w' = w := kind_code op 1 (by omega) w
theorem kind2_code (op : Nat) (w : World) : Calls Tryz.prog 70 #[.int .u8 op, .int .i64 2] w fun e w' => e = .returned (.int .i64 (Code.thr op)) ∧ w' = w := kind_code op 2 (by omega) w

set_option maxRecDepth 100000 in
set_option maxHeartbeats 1000000 in
theorem at_code (p : ByteArray) (hp : Mach.Good p) (pc : Int) (h0 : 0 ≤ pc) (h1 : pc ≤ 32) (h : 3 * pc.toNat < p.size) (w : World) :
    Calls Tryz.prog 74 #[.string p, .int .i64 pc] w fun e w' => e = .returned (.tuple #[insVal (Mach.op p pc.toNat) (Mach.fst p pc.toNat) (Mach.snd p pc.toNat), .bool true]) ∧ Below w.heap.size w w' := by
  obtain ⟨k, rfl⟩ := Int.eq_ofNat_of_zero_le h0
  rw [Int.toNat_natCast] at *
  have hsh := hp.short
  have hwh := hp.whole
  have n1 := Mach.num_sec (hp.sign h) (hp.second h)
  have n2 := Mach.num_thr (hp.sign h) (hp.third h)
  have l1 := Code.byt_lt p (3 * k + 1)
  have l2 := Code.byt_lt p (3 * k + 2)
  have b0 := Code.byt_eq p (k * 3) (by omega)
  have b1 := Code.byt_eq p (k * 3 + 1) (by omega)
  have b2 := Code.byt_eq p (k * 3 + 2) (by omega)
  rw [show Code.byt p (k * 3) = Mach.op p k by unfold Mach.op; rw [Nat.mul_comm]] at b0
  rw [show Code.byt p (k * 3 + 1) = Code.byt p (3 * k + 1) by rw [Nat.mul_comm]] at b1
  rw [show Code.byt p (k * 3 + 2) = Code.byt p (3 * k + 2) by rw [Nat.mul_comm]] at b2
  have e1 : Mach.val (Code.cls2 (Mach.op p k)) (Code.byt p (3 * k + 1)) = Mach.fst p k := rfl
  have e2 : Mach.val (Code.cls3 (Mach.op p k)) (Code.byt p (3 * k + 2)) = Mach.snd p k := rfl
  rw [e1] at n1
  rw [e2] at n2
  clear e1 e2
  generalize Mach.op p k = o at *
  generalize Mach.fst p k = r at *
  generalize Mach.snd p k = t at *
  have hd : (k : Int) < (p.size : Int) / 3 := by omega
  go_enter Tryz.func74, Tryz.ntmps74
  go_wp2_with fail
  refine (kind1_code _ _).mono ?_
  rintro e w' ⟨rfl, rfl⟩
  go_wp2_with (go_at_call 71; refine (number_code _ _ (by omega) _).mono ?_; rintro e w' ⟨rfl, rfl⟩)
  refine (kind2_code _ _).mono ?_
  rintro e w' ⟨rfl, rfl⟩
  go_wp2_with (go_at_call 71; refine (number_code _ _ (by omega) _).mono ?_; rintro e w' ⟨rfl, rfl⟩)
  exact bodyPost_ret (v := .tuple #[insVal o r t, .bool true]) (by simp [results, Tryz.results74, go_sem]) rfl ⟨rfl, bel2⟩

set_option maxRecDepth 100000 in
set_option maxHeartbeats 1000000 in
theorem at_none (p : ByteArray) (hp : Mach.Good p) (pc : Int) (h0 : 0 ≤ pc) (h1 : pc ≤ 32) (h : ¬ 3 * pc.toNat < p.size) (w : World) :
    Calls Tryz.prog 74 #[.string p, .int .i64 pc] w fun e w' => e = .returned (.tuple #[insVal 0 0 0, .bool false]) ∧ Below w.heap.size w w' := by
  obtain ⟨k, rfl⟩ := Int.eq_ofNat_of_zero_le h0
  rw [Int.toNat_natCast] at *
  have hsh := hp.short
  have hwh := hp.whole
  have hd : (p.size : Int) / 3 ≤ (k : Int) := by omega
  go_enter Tryz.func74, Tryz.ntmps74
  go_wp2
  exact bodyPost_ret (v := .tuple #[insVal 0 0 0, .bool false]) (by simp [results, Tryz.results74, go_sem]) rfl ⟨rfl, (Below.refl _ _).alloc (Nat.le_refl _) _⟩

end Go.Proofs.YtcmoffiigpchiaaGreat
