import Derived.Test.YtcmoffiigpchiaaKeepC
import Derived.Test.YtcmoffiigpchiaaStepMD
namespace Go.Proofs.Ytcmoffiigpchiaa
open Go.RowKit
namespace Keep

def zeroC : ChV := ⟨0, 0, false⟩
theorem zeroC_chosen : Mach.Chosen zeroC := ⟨by decide, by decide, by decide, by decide⟩
/-- The run that stands in the document. -/
def hp : ByteArray := ⟨#[61, 97, 53, 61, 98, 55, 43, 97, 98, 62, 97, 51]⟩
def hs : Nat → StV
  | 0 => Frame.begin
  | i + 1 => Mach.next hp (hs i) zeroC
def hm : Nat → RM
  | 0 => RM.new hp 2 50
  | i + 1 => (RM.step (hm i) zeroC).1
def want : StV := ⟨5, 4, ⟨#[12, 7, 0, 0]⟩, ⟨#[0, 0, 0, 12]⟩ ++ Frame.zeroB 12, 0, -1, -1, false, true⟩
theorem hp_chk : (Code.chk hp).1 = 0 := by decide +kernel
theorem hp_good : Mach.Good hp := Mach.good_of hp_chk
theorem hs_goes : ∀ i, i < 5 → Mach.refusal hp (hs i) zeroC = 0 := by decide +kernel
theorem hs_want : hs 5 = want := by
  have h1 : (hs 5).n = 5 := by decide +kernel
  have h2 : (hs 5).pc = 4 := by decide +kernel
  have h3 : (hs 5).regs = ⟨#[12, 7, 0, 0]⟩ := by decide +kernel
  have h4 : (hs 5).cells = ⟨#[0, 0, 0, 12]⟩ ++ Frame.zeroB 12 := by decide +kernel
  have h5 : (hs 5).clock = 0 := by decide +kernel
  have h6 : (hs 5).handler = -1 := by decide +kernel
  have h7 : (hs 5).back = -1 := by decide +kernel
  have h8 : (hs 5).pending = false := by decide +kernel
  have h9 : (hs 5).halted = true := by decide +kernel
  generalize hs 5 = s at *
  obtain ⟨a1, a2, a3, a4, a5, a6, a7, a8, a9⟩ := s
  simp only at h1 h2 h3 h4 h5 h6 h7 h8 h9
  subst h1 h2 h3 h4 h5 h6 h7 h8 h9
  rfl
theorem hs_end : Mach.refusal hp want zeroC = 5 := by decide +kernel
theorem hm_inv : ∀ i, i ≤ 5 → (hm i).Inv ∧ (hm i).s = hs i ∧ (hm i).p = hp ∧ (hm i).all.length ≤ 1 + 3 * i := by
  intro i
  induction i with
  | zero => intro _; exact ⟨RM.new_inv hp_good (by decide) (by decide) (by decide) (by decide), rfl, rfl, by simp [hm, RM.new]⟩
  | succ i ih =>
    intro hi
    obtain ⟨a1, a2, a3, a4⟩ := ih (by omega)
    have hr := hs_goes i (by omega)
    have he : RM.stepErr (hm i) zeroC = 0 := by
      rw [← RM.stepErr_eq a1.ok, a2, a3]
      exact hr
    obtain ⟨hc, hh, hn⟩ := RM.stepErr_zero he
    obtain ⟨b1, b2, b3, b4⟩ := RM.stepped_inv a1 hc hn (by omega)
    have e : (RM.step (hm i) zeroC).1 = RM.stepped (hm i) zeroC := by
      unfold RM.step
      rw [if_pos he]
    show (RM.step (hm i) zeroC).1.Inv ∧ (RM.step (hm i) zeroC).1.s = Mach.next hp (hs i) zeroC ∧ (RM.step (hm i) zeroC).1.p = hp ∧ (RM.step (hm i) zeroC).1.all.length ≤ 1 + 3 * (i + 1)
    rw [e]
    exact ⟨b1, by rw [b2, a2, a3], by rw [b3, a3], by omega⟩
theorem hm_err (i : Nat) (hi : i < 5) : (RM.step (hm i) zeroC).2 = 0 := by
  obtain ⟨a1, a2, a3, a4⟩ := hm_inv i (by omega)
  have hr := hs_goes i hi
  have he : RM.stepErr (hm i) zeroC = 0 := by
    rw [← RM.stepErr_eq a1.ok, a2, a3]
    exact hr
  unfold RM.step
  rw [if_pos he]
theorem hs_step (i : Nat) (hi : i < 5) : Mach.step hp (hs i) zeroC = (hs (i + 1), 0) := by
  unfold Mach.step
  rw [if_pos (hs_goes i hi)]
  rfl
end Keep
end Go.Proofs.Ytcmoffiigpchiaa
