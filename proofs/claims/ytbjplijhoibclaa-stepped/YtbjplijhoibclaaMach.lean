import Derived.Test.YtbjplijhoibclaaData
namespace Go.Proofs.Ytbjplijhoibclaa
namespace Mach
open _root_.Go.Proofs.Ytbjplijhoibclaa.Code

def setB (b : ByteArray) (i v : Nat) : ByteArray := ⟨(b.data.toList.set i (UInt8.ofNat v)).toArray⟩
theorem setB_size (b : ByteArray) (i v : Nat) : (setB b i v).size = b.size := by
  show (b.data.toList.set i (UInt8.ofNat v)).toArray.size = b.data.size
  simp

def wi (n lo hi : Int) : Bool := decide (lo ≤ n ∧ n ≤ hi)
def legal (s : StV) : Bool := wi s.n 0 10000 && wi s.pc 0 32 && decide (s.regs.size = 4) && decide (s.cells.size = 16) && wi s.clock 0 65535 && wi s.handler (-1) 31 && wi s.back (-1) 32
def chosen (c : ChV) : Bool := wi c.input 0 255 && wi c.ticks 0 255

structure Legal (s : StV) : Prop where
  n0 : 0 ≤ s.n
  n1 : s.n ≤ 10000
  pc0 : 0 ≤ s.pc
  pc1 : s.pc ≤ 32
  regs : s.regs.size = 4
  cells : s.cells.size = 16
  clock0 : 0 ≤ s.clock
  clock1 : s.clock ≤ 65535
  handler0 : -1 ≤ s.handler
  handler1 : s.handler ≤ 31
  back0 : -1 ≤ s.back
  back1 : s.back ≤ 32
structure Chosen (c : ChV) : Prop where
  input0 : 0 ≤ c.input
  input1 : c.input ≤ 255
  ticks0 : 0 ≤ c.ticks
  ticks1 : c.ticks ≤ 255
theorem legal_iff (s : StV) : legal s = true ↔ Legal s := by
  constructor
  · intro h
    simp [legal, wi] at h
    exact ⟨by omega, by omega, by omega, by omega, by omega, by omega, by omega, by omega, by omega, by omega, by omega, by omega⟩
  · intro ⟨a1, a2, a3, a4, a5, a6, a7, a8, a9, a10, a11, a12⟩
    simp [legal, wi, *]
theorem chosen_iff (c : ChV) : chosen c = true ↔ Chosen c := by
  constructor
  · intro h
    simp [chosen, wi] at h
    exact ⟨by omega, by omega, by omega, by omega⟩
  · intro ⟨a1, a2, a3, a4⟩
    simp [chosen, wi, *]

/-- The number that a byte of a class stands for. -/
def val (c b : Nat) : Nat := if c = 114 then b - 97 else if c = 46 then 0 else if 97 ≤ b then b - 87 else b - 48

def moved (op r t : Nat) (s : StV) (input : Int) : StV :=
  if op = 61 then { s with regs := setB s.regs r t }
  else if op = 43 then { s with regs := setB s.regs r ((byt s.regs r + byt s.regs t) % 256) }
  else if op = 45 then { s with regs := setB s.regs r ((byt s.regs r + 256 - byt s.regs t) % 256) }
  else if op = 60 then { s with regs := setB s.regs r (byt s.cells t) }
  else if op = 62 then { s with cells := setB s.cells t (byt s.regs r) }
  else if op = 40 then { s with regs := setB s.regs r (byt s.cells (byt s.regs t % 16)) }
  else if op = 41 then { s with cells := setB s.cells (byt s.regs t % 16) (byt s.regs r) }
  else if op = 63 then { s with regs := setB s.regs r input.toNat }
  else if op = 35 then { s with regs := setB s.regs r (s.clock % 256).toNat }
  else s
def turned (op r t : Nat) (s : StV) : StV :=
  if op = 106 then { s with pc := t }
  else if op = 122 then (if byt s.regs r = 0 then { s with pc := t } else s)
  else if op = 105 then { s with handler := t }
  else if op = 109 then { s with handler := -1 }
  else if op = 101 then (if s.back = -1 then s else { s with pc := s.back, back := -1 })
  else if op = 104 then { s with halted := true }
  else s
def arrive (s : StV) (c : ChV) : StV :=
  let p := s.pending || c.interrupt
  let k := (s.clock + c.ticks) % 65536
  if p = true ∧ s.handler ≠ -1 ∧ s.back = -1 then { s with clock := k, pending := false, back := s.pc, pc := s.handler }
  else { s with clock := k, pending := p }
def op (p : ByteArray) (pc : Nat) : Nat := byt p (3 * pc)
def fst (p : ByteArray) (pc : Nat) : Nat := val (cls2 (op p pc)) (byt p (3 * pc + 1))
def snd (p : ByteArray) (pc : Nat) : Nat := val (cls3 (op p pc)) (byt p (3 * pc + 2))
def doIns (o r t : Nat) (s : StV) (input : Int) : StV := turned o r t (moved o r t { s with pc := s.pc + 1 } input)
def exec (p : ByteArray) (s : StV) (input : Int) : StV :=
  if 3 * s.pc.toNat < p.size then doIns (op p s.pc.toNat) (fst p s.pc.toNat) (snd p s.pc.toNat) s input else { s with halted := true }
def next (p : ByteArray) (s : StV) (c : ChV) : StV :=
  let t := exec p (arrive s c) c.input
  { t with n := t.n + 1 }
def zero : StV := ⟨0, 0, ByteArray.empty, ByteArray.empty, 0, 0, 0, false, false⟩
def refusal (p : ByteArray) (s : StV) (c : ChV) : Int :=
  if (chk p).1 ≠ 0 then (chk p).1 else if legal s = false then 4 else if chosen c = false then 3 else if s.halted = true ∨ 10000 ≤ s.n then 5 else 0
def step (p : ByteArray) (s : StV) (c : ChV) : StV × Int := if refusal p s c = 0 then (next p s c, 0) else (zero, refusal p s c)

/-- What can stand in an instruction. -/
structure Fits (o r t : Nat) : Prop where
  sign : cls2 o ≠ 0
  r4 : cls2 o = 114 → r < 4
  t16 : cls3 o = 100 → t < 16
  t4 : cls3 o = 114 → t < 4
  t32 : cls3 o = 112 → t < 32

/-- What a program is. -/
structure Good (p : ByteArray) : Prop where
  short : p.size ≤ 96
  whole : p.size % 3 = 0
  all : ∀ i, i < p.size → okAt p i = true
theorem good_of {p : ByteArray} (h : (chk p).1 = 0) : Good p := by
  unfold chk at h
  split at h
  · simp at h
  · rename_i h1
    split at h
    · simp at h
    · rename_i h2
      split at h
      · rename_i h3
        refine ⟨by omega, h3, fun i hi => ?_⟩
        unfold firstBad at h2
        rw [List.find?_range_eq_none] at h2
        simpa using h2 i hi
      · simp at h
theorem Good.sign {p : ByteArray} (g : Good p) {k : Nat} (h : 3 * k < p.size) : cls2 (op p k) ≠ 0 := by
  have := g.all (3 * k) h
  unfold okAt at this
  rw [show 3 * k % 3 = 0 by omega] at this
  exact okB_sign this
theorem Good.second {p : ByteArray} (g : Good p) {k : Nat} (h : 3 * k < p.size) : stand (cls2 (op p k)) (byt p (3 * k + 1)) = true := by
  have hw := g.whole
  have := g.all (3 * k + 1) (by omega)
  unfold okAt at this
  rw [show (3 * k + 1) % 3 = 1 by omega, show (3 * k + 1) / 3 * 3 = 3 * k by omega] at this
  simpa [okB, op] using this
theorem Good.third {p : ByteArray} (g : Good p) {k : Nat} (h : 3 * k < p.size) : stand (cls3 (op p k)) (byt p (3 * k + 2)) = true := by
  have hw := g.whole
  have := g.all (3 * k + 2) (by omega)
  unfold okAt at this
  rw [show (3 * k + 2) % 3 = 2 by omega, show (3 * k + 2) / 3 * 3 = 3 * k by omega] at this
  simpa [okB, op] using this
theorem stand_val {c b : Nat} (h : stand c b = true) : (c = 114 → val c b < 4 ∧ 97 ≤ b ∧ b ≤ 100) ∧ (c = 100 → val c b < 16 ∧ ((48 ≤ b ∧ b ≤ 57) ∨ (97 ≤ b ∧ b ≤ 102))) ∧ (c = 112 → val c b < 32 ∧ ((48 ≤ b ∧ b ≤ 57) ∨ (97 ≤ b ∧ b ≤ 118))) := by
  refine ⟨fun e => ?_, fun e => ?_, fun e => ?_⟩
  · rw [stand_r b e] at h
    have h' := of_decide_eq_true h
    simp [val, e]; omega
  · rw [stand_d b e] at h
    have h' := of_decide_eq_true h
    simp [val, e]; split <;> omega
  · rw [stand_p b e] at h
    have h' := of_decide_eq_true h
    simp [val, e]; split <;> omega
theorem Good.fits {p : ByteArray} (g : Good p) {k : Nat} (h : 3 * k < p.size) : Fits (op p k) (fst p k) (snd p k) :=
  ⟨g.sign h, fun e => ((stand_val (g.second h)).1 e).1, fun e => ((stand_val (g.third h)).2.1 e).1, fun e => ((stand_val (g.third h)).1 e).1, fun e => ((stand_val (g.third h)).2.2 e).1⟩
/-- The code's numbers are the document's. -/
theorem num_sec {o b : Nat} (hs : cls2 o ≠ 0) (h : stand (cls2 o) b = true) : num (sec o) b = (val (cls2 o) b : Int) := by
  rcases cls2_cases o with e | e | e
  · have := ((stand_val h).1 e)
    simp [sec, num, val, e]; omega
  · rw [e, stand_o b (by omega) (by omega) (by omega)] at h
    have := of_decide_eq_true h
    simp [sec, num, val, e, this]
  · exact absurd e hs
theorem num_thr {o b : Nat} (hs : cls2 o ≠ 0) (h : stand (cls3 o) b = true) : num (thr o) b = (val (cls3 o) b : Int) := by
  rcases cls3_cases o hs with e | e | e | e
  · have := ((stand_val h).1 e)
    simp [thr, num, val, e]; omega
  · rw [e, stand_o b (by omega) (by omega) (by omega)] at h
    have := of_decide_eq_true h
    simp [thr, num, val, e, this]
  · have := ((stand_val h).2.1 e)
    simp [thr, num, val, e, digit]; repeat' split
    all_goals omega
  · have := ((stand_val h).2.2 e)
    simp [thr, num, val, e, digit]; repeat' split
    all_goals omega
/-- The fifteen signs. -/
theorem sign_cases {o : Nat} (h : cls2 o ≠ 0) : o = 61 ∨ o = 43 ∨ o = 45 ∨ o = 60 ∨ o = 62 ∨ o = 40 ∨ o = 41 ∨ o = 63 ∨ o = 35 ∨ o = 122 ∨ o = 106 ∨ o = 105 ∨ o = 109 ∨ o = 101 ∨ o = 104 := by
  unfold cls2 at h
  split at h
  · omega
  · split at h
    · omega
    · exact absurd rfl h
end Mach
end Go.Proofs.Ytbjplijhoibclaa
