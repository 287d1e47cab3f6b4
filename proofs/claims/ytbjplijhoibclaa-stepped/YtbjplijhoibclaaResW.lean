import Derived.Test.YtbjplijhoibclaaPutW
namespace Go.Proofs.Ytbjplijhoibclaa
open Go.RowKit

abbrev insVal (o r t : Nat) : Value := .agg #[.int .u8 o, .int .i64 r, .int .i64 t]

/-- What the register of an instruction becomes. -/
def resultOf (o r t : Nat) (s : StV) (input : Int) : Nat :=
  if o = 61 then t
  else if o = 43 then (Code.byt s.regs r + Code.byt s.regs t) % 256
  else if o = 45 then (Code.byt s.regs r + 256 - Code.byt s.regs t) % 256
  else if o = 60 then Code.byt s.cells t
  else if o = 40 then Code.byt s.cells (Code.byt s.regs t % 16)
  else if o = 63 then input.toNat
  else (s.clock % 256).toNat

theorem bel2 {w : World} {o p : Obj} : Below w.heap.size w ((w.alloc o).alloc p) := ((Below.refl _ _).alloc (Nat.le_refl _) o).alloc (by simp) p

set_option maxRecDepth 100000 in
set_option maxHeartbeats 1000000 in
theorem result_code (o r t : Nat) (s : StV) (input : Int) (ho : o = 61 ∨ o = 43 ∨ o = 45 ∨ o = 60 ∨ o = 40 ∨ o = 63 ∨ o = 35) (hf : Mach.Fits o r t) (hregs : s.regs.size = 4) (hcells : s.cells.size = 16) (hc0 : 0 ≤ s.clock) (hi0 : 0 ≤ input) (w : World) :
    Calls Try.prog 95 #[insVal o r t, s.val, .int .i64 input] w fun e w' => e = .returned (.int .i64 (resultOf o r t s input : Nat)) ∧ Below w.heap.size w w' := by
  obtain ⟨n, pc, regs, cells, clock, handler, back, pending, halted⟩ := s
  obtain ⟨hsg, r4, t16, t4, t32⟩ := hf
  simp only at hregs hcells hc0
  have br := Code.byt_lt regs r
  have bt := Code.byt_lt regs t
  rcases ho with rfl | rfl | rfl | rfl | rfl | rfl | rfl
  · have hr := r4 (by decide)
    clear r4 t16 t4 t32 hsg
    go_enter Try.func95, Try.ntmps95
    go_wp2_with (go_at_call 97; refine (get_code _ _ (by omega) (by omega) _).mono ?_; rintro e w' ⟨rfl, rfl⟩; simp only [Int.toNat_natCast])
    go_ret
    exact ⟨ret_int (by simp [resultOf]), bel2⟩
  · have hr := r4 (by decide)
    have ht := t4 (by decide)
    clear r4 t16 t4 t32 hsg
    go_enter Try.func95, Try.ntmps95
    go_wp2_with (go_at_call 97; refine (get_code _ _ (by omega) (by omega) _).mono ?_; rintro e w' ⟨rfl, rfl⟩; simp only [Int.toNat_natCast])
    go_ret
    exact ⟨ret_int (by simp [resultOf]), bel2⟩
  · have hr := r4 (by decide)
    have ht := t4 (by decide)
    clear r4 t16 t4 t32 hsg
    go_enter Try.func95, Try.ntmps95
    go_wp2_with (go_at_call 97; refine (get_code _ _ (by omega) (by omega) _).mono ?_; rintro e w' ⟨rfl, rfl⟩; simp only [Int.toNat_natCast])
    go_ret
    exact ⟨ret_int (by simp [resultOf]; omega), bel2⟩
  · have hr := r4 (by decide)
    have ht := t16 (by decide)
    clear r4 t16 t4 t32 hsg
    go_enter Try.func95, Try.ntmps95
    go_wp2_with (go_at_call 97; refine (get_code _ _ (by omega) (by omega) _).mono ?_; rintro e w' ⟨rfl, rfl⟩; simp only [Int.toNat_natCast])
    go_ret
    exact ⟨ret_int (by simp [resultOf]), bel2⟩
  · have hr := r4 (by decide)
    have ht := t4 (by decide)
    have e16 : ((Code.byt regs t : Int) % 16).toNat = Code.byt regs t % 16 := by omega
    have E16 := hide e16
    clear r4 t16 t4 t32 hsg e16
    go_enter Try.func95, Try.ntmps95
    go_wp2_with (go_at_call 97; refine (get_code _ _ (by omega) (by omega) _).mono ?_; rintro e w' ⟨rfl, rfl⟩; simp only [Int.toNat_natCast])
    go_ret
    exact ⟨ret_int (by simp [resultOf, unhide E16]), bel2⟩
  · have hr := r4 (by decide)
    clear r4 t16 t4 t32 hsg
    go_enter Try.func95, Try.ntmps95
    go_wp2_with (go_at_call 97; refine (get_code _ _ (by omega) (by omega) _).mono ?_; rintro e w' ⟨rfl, rfl⟩; simp only [Int.toNat_natCast])
    go_ret
    exact ⟨ret_int (by simp [resultOf]; omega), bel2⟩
  · have hr := r4 (by decide)
    clear r4 t16 t4 t32 hsg
    go_enter Try.func95, Try.ntmps95
    go_wp2_with (go_at_call 97; refine (get_code _ _ (by omega) (by omega) _).mono ?_; rintro e w' ⟨rfl, rfl⟩; simp only [Int.toNat_natCast])
    go_ret
    exact ⟨ret_int (by simp [resultOf]; omega), bel2⟩


end Go.Proofs.Ytbjplijhoibclaa
