import Derived.Test.YtcmoffiigpchiabGreatRows
import Derived.WalkKit
import Derived.WalkSpells
import Derived.WalkLawsBesides
import Derived.Laws.Entries
namespace Go.Proofs.YtcmoffiigpchiabGreat
open Go.RowKit

theorem hide {p : Prop} (h : p) : Hid p := h
theorem unhide {p : Prop} (h : Hid p) : p := h.out
theorem ret_int {k : IntKind} {a b : Int} (h : a = b) : Ending.returned (.int k a) = .returned (.int k b) := by rw [h]

theorem ret_bool {a b : Bool} (h : a = b) : Ending.returned (.bool a) = .returned (.bool b) := by rw [h]
theorem ofInt_i64 (a : Nat) (ha : a < 9223372036854775808) : (BitVec.ofInt 64 (a : Int)).toNat = a := by
  rw [BitVec.ofInt_natCast, BitVec.toNat_ofNat]; exact Nat.mod_eq_of_lt (by omega)
theorem i64_wrap_nat (n : Nat) (h : n < 9223372036854775808) : IntKind.i64.wrap (n : Int) = n := by
  simp [IntKind.wrap, IntKind.bits, IntKind.signed]; omega
theorem i64_xor_nat (a b : Nat) (ha : a < 9223372036854775808) (hb : b < 9223372036854775808) : bits .xor .i64 (a : Int) (b : Int) = ((a ^^^ b : Nat) : Int) := by
  have hx : a ^^^ b < 2 ^ 63 := Nat.xor_lt_two_pow (by omega) (by omega)
  show IntKind.i64.wrap ((BitVec.ofInt 64 (a : Int) ^^^ BitVec.ofInt 64 (b : Int)).toNat : Int) = _
  rw [BitVec.toNat_xor, ofInt_i64 a ha, ofInt_i64 b hb]
  exact i64_wrap_nat _ (by omega)
theorem i64_and_nat (a b : Nat) (ha : a < 9223372036854775808) (hb : b < 9223372036854775808) : bits .and .i64 (a : Int) (b : Int) = ((a &&& b : Nat) : Int) := by
  have hx : a &&& b ≤ a := Nat.and_le_left
  show IntKind.i64.wrap ((BitVec.ofInt 64 (a : Int) &&& BitVec.ofInt 64 (b : Int)).toNat : Int) = _
  rw [BitVec.toNat_and, ofInt_i64 a ha, ofInt_i64 b hb]
  exact i64_wrap_nat _ (by omega)
theorem take_snoc (s : ByteArray) (k : Nat) (h : k < s.size) : s.data.toList.take (k + 1) = s.data.toList.take k ++ [s[k]] := by
  rw [List.take_succ_eq_append_getElem (by simpa using h)]; rfl
end Go.Proofs.YtcmoffiigpchiabGreat

namespace Go.Proofs.YtcmoffiigpchiabGreat
namespace Code

def byt (s : ByteArray) (i : Nat) : Nat := if h : i < s.size then s[i].toNat else 0
theorem byt_eq (s : ByteArray) (i : Nat) (h : i < s.size) : s[i].toNat = byt s i := by simp [byt, h]
theorem byt_lt (s : ByteArray) (i : Nat) : byt s i < 256 := by
  unfold byt
  split
  · exact UInt8.toNat_lt _
  · omega

/-- What must stand behind a sign: 114 a register, 100 a digit, 112 a place, 46 a point; 0: it is no sign. -/
def cls2 (op : Nat) : Nat :=
  if op = 61 ∨ op = 43 ∨ op = 45 ∨ op = 60 ∨ op = 62 ∨ op = 40 ∨ op = 41 ∨ op = 63 ∨ op = 35 ∨ op = 122 then 114
  else if op = 106 ∨ op = 105 ∨ op = 109 ∨ op = 101 ∨ op = 104 then 46 else 0
def cls3 (op : Nat) : Nat :=
  if op = 61 ∨ op = 60 ∨ op = 62 then 100
  else if op = 43 ∨ op = 45 ∨ op = 40 ∨ op = 41 then 114
  else if op = 106 ∨ op = 122 ∨ op = 105 then 112
  else if op = 63 ∨ op = 35 ∨ op = 109 ∨ op = 101 ∨ op = 104 then 46 else 0
def stand (c b : Nat) : Bool :=
  if c = 114 then decide (97 ≤ b ∧ b ≤ 100)
  else if c = 100 then decide ((48 ≤ b ∧ b ≤ 57) ∨ (97 ≤ b ∧ b ≤ 102))
  else if c = 112 then decide ((48 ≤ b ∧ b ≤ 57) ∨ (97 ≤ b ∧ b ≤ 118))
  else decide (b = 46)
def okB (op pl b : Nat) : Bool :=
  if pl = 0 then decide (cls2 b ≠ 0) else if pl = 1 then stand (cls2 op) b else stand (cls3 op) b
def okAt (s : ByteArray) (i : Nat) : Bool := okB (byt s (i / 3 * 3)) (i % 3) (byt s i)

def firstBad (s : ByteArray) : Option Nat := (List.range s.size).find? fun i => !okAt s i
def chk (s : ByteArray) : Int × Int :=
  if 96 < s.size then (1, 0) else match firstBad s with
    | some i => (2, (i : Int))
    | none => if s.size % 3 = 0 then (0, 0) else (2, (s.size : Int))

theorem bad_here {s : ByteArray} {i : Nat} (hi : i < s.size) (hb : ∀ j, j < i → okAt s j = true) (h : okAt s i = false) : firstBad s = some i := by
  unfold firstBad
  rw [List.find?_range_eq_some]
  exact ⟨by simpa using h, by simpa using hi, fun j hj => by simp [hb j hj]⟩
theorem bad_none {s : ByteArray} (hb : ∀ j, j < s.size → okAt s j = true) : firstBad s = none := by
  unfold firstBad
  rw [List.find?_range_eq_none]
  exact fun j hj => by simp [hb j hj]
theorem chk_long {s : ByteArray} (h : 96 < s.size) : chk s = (1, 0) := by simp [chk, h]
theorem chk_bad {s : ByteArray} {i : Nat} (h : ¬ 96 < s.size) (hi : i < s.size) (hb : ∀ j, j < i → okAt s j = true) (h' : okAt s i = false) : chk s = (2, (i : Int)) := by
  simp [chk, h, bad_here hi hb h']
theorem chk_short {s : ByteArray} (h : ¬ 96 < s.size) (hb : ∀ j, j < s.size → okAt s j = true) (h' : ¬ s.size % 3 = 0) : chk s = (2, (s.size : Int)) := by
  simp [chk, h, bad_none hb, h']
theorem chk_ok {s : ByteArray} (h : ¬ 96 < s.size) (hb : ∀ j, j < s.size → okAt s j = true) (h' : s.size % 3 = 0) : chk s = (0, 0) := by
  simp [chk, h, bad_none hb, h']

/-! The code's own kinds: 0 none, 1 a sign, 2 a register, 3 a digit, 4 a place, 5 a point. -/
def sec (op : Nat) : Int := if cls2 op = 114 then 2 else if cls2 op = 46 then 5 else 0
def thr (op : Nat) : Int := if cls3 op = 100 then 3 else if cls3 op = 114 then 2 else if cls3 op = 112 then 4 else if cls3 op = 46 then 5 else 0
def kind (op pl : Nat) : Int := if pl = 0 then 1 else if pl = 1 then sec op else thr op
def digit (b last : Nat) : Int := if 48 ≤ b ∧ b ≤ 57 then (b : Int) - 48 else if 97 ≤ b ∧ b ≤ last then (b : Int) - 87 else -1
def num (k : Int) (b : Nat) : Int :=
  if k = 1 then (if sec b = 0 then -1 else 0)
  else if k = 2 then (if 97 ≤ b ∧ b ≤ 100 then (b : Int) - 97 else -1)
  else if k = 3 then digit b 102
  else if k = 4 then digit b 118
  else if k = 5 then (if b = 46 then 0 else -1)
  else -1

theorem cls2_cases (op : Nat) : cls2 op = 114 ∨ cls2 op = 46 ∨ cls2 op = 0 := by
  unfold cls2
  split
  · exact .inl rfl
  · split
    · exact .inr (.inl rfl)
    · exact .inr (.inr rfl)
theorem cls3_cases (op : Nat) (h : cls2 op ≠ 0) : cls3 op = 114 ∨ cls3 op = 46 ∨ cls3 op = 100 ∨ cls3 op = 112 := by
  unfold cls2 at h
  unfold cls3
  repeat' split
  all_goals first | omega | (split at h <;> first | omega | (split at h <;> omega))
theorem sec_zero (b : Nat) : sec b = 0 ↔ cls2 b = 0 := by
  unfold sec
  rcases cls2_cases b with h | h | h <;> simp [h]
/-- The code's test is the document's. -/
theorem num_neg (op pl b : Nat) (h : pl ≠ 0 → cls2 op ≠ 0) : num (kind op pl) b < 0 ↔ okB op pl b = false := by
  unfold kind okB
  by_cases h0 : pl = 0
  · simp [h0, num, sec_zero]
    split <;> simp_all
  · have hc := h h0
    simp only [h0, if_false]
    by_cases h1 : pl = 1
    · simp only [h1, if_true, sec]
      rcases cls2_cases op with e | e | e
      · simp [e, num, stand]; split <;> omega
      · simp [e, num, stand]; split <;> omega
      · exact absurd e hc
    · simp only [h1, if_false, thr]
      rcases cls3_cases op hc with e | e | e | e <;> simp [e, num, stand, digit] <;> split <;> (try split) <;> omega
theorem okB_sign {op b : Nat} (h : okB op 0 b = true) : cls2 b ≠ 0 := by simpa [okB] using h
theorem stand_r {c : Nat} (b : Nat) (h : c = 114) : stand c b = decide (97 ≤ b ∧ b ≤ 100) := by simp [stand, h]
theorem stand_d {c : Nat} (b : Nat) (h : c = 100) : stand c b = decide ((48 ≤ b ∧ b ≤ 57) ∨ (97 ≤ b ∧ b ≤ 102)) := by simp [stand, h]
theorem stand_p {c : Nat} (b : Nat) (h : c = 112) : stand c b = decide ((48 ≤ b ∧ b ≤ 57) ∨ (97 ≤ b ∧ b ≤ 118)) := by simp [stand, h]
theorem stand_o {c : Nat} (b : Nat) (h1 : c ≠ 114) (h2 : c ≠ 100) (h3 : c ≠ 112) : stand c b = decide (b = 46) := by simp [stand, h1, h2, h3]

/-! The document's table: the signs in their order, and what must stand behind each. -/
def sg (k : Nat) : Nat := [61, 43, 45, 60, 62, 40, 41, 63, 35, 106, 122, 105, 109, 101, 104].getD k 0
def sc2 (k : Nat) : Nat := [114, 114, 114, 114, 114, 114, 114, 114, 114, 46, 114, 46, 46, 46, 46].getD k 0
def sc3 (k : Nat) : Nat := [100, 114, 114, 100, 100, 114, 114, 46, 46, 112, 112, 112, 46, 46, 46].getD k 0
theorem table : ∀ k, k < 15 → cls2 (sg k) = sc2 k ∧ cls3 (sg k) = sc3 k ∧ sc2 k ≠ 0 ∧ sg k < 256 ∧ sc2 k < 256 ∧ sc3 k < 256 := by decide
theorem no_sign {b : Nat} (h : ∀ k, k < 15 → sg k ≠ b) : cls2 b = 0 := by
  have h0 := h 0 (by omega)
  have h1 := h 1 (by omega)
  have h2 := h 2 (by omega)
  have h3 := h 3 (by omega)
  have h4 := h 4 (by omega)
  have h5 := h 5 (by omega)
  have h6 := h 6 (by omega)
  have h7 := h 7 (by omega)
  have h8 := h 8 (by omega)
  have h9 := h 9 (by omega)
  have h10 := h 10 (by omega)
  have h11 := h 11 (by omega)
  have h12 := h 12 (by omega)
  have h13 := h 13 (by omega)
  have h14 := h 14 (by omega)
  simp [sg] at h0 h1 h2 h3 h4 h5 h6 h7 h8 h9 h10 h11 h12 h13 h14
  unfold cls2
  rw [if_neg (by omega), if_neg (by omega)]
theorem okAt_first {s : ByteArray} {n k : Nat} (hm : n % 3 = 0) (hk : k < 15) (he : sg k = byt s n) : okAt s n = true := by
  unfold okAt
  rw [hm]
  obtain ⟨t1, _, t3, _⟩ := table k hk
  simp [okB, ← he, t1, t3]
theorem okAt_none {s : ByteArray} {n : Nat} (hm : n % 3 = 0) (h : ∀ k, k < 15 → sg k ≠ byt s n) : okAt s n = false := by
  unfold okAt
  rw [hm]
  simp [okB, no_sign h]
end Code
end Go.Proofs.YtcmoffiigpchiabGreat

namespace Go.Proofs.YtcmoffiigpchiabGreat

/-- A state, as the cells of its struct. -/
structure StV where
  n : Int
  pc : Int
  regs : ByteArray
  cells : ByteArray
  clock : Int
  handler : Int
  back : Int
  pending : Bool
  halted : Bool
/-- A choice likewise. -/
structure ChV where
  input : Int
  ticks : Int
  interrupt : Bool
/-- A step of a script likewise. -/
structure OpV where
  kind : Int
  m : Int
  p : ByteArray
  b : ByteArray
  s : StV
  c : ChV
  x : Int
  y : Int

def i64ok (n : Int) : Prop := -9223372036854775808 ≤ n ∧ n ≤ 9223372036854775807
structure StV.Ok (s : StV) : Prop where
  n : i64ok s.n
  pc : i64ok s.pc
  regs : s.regs.size ≤ maxLen
  cells : s.cells.size ≤ maxLen
  clock : i64ok s.clock
  handler : i64ok s.handler
  back : i64ok s.back
structure ChV.Ok (c : ChV) : Prop where
  input : i64ok c.input
  ticks : i64ok c.ticks
structure OpV.Ok (o : OpV) : Prop where
  kind : i64ok o.kind
  m : i64ok o.m
  p : o.p.size ≤ maxLen
  b : o.b.size ≤ maxLen
  s : o.s.Ok
  c : o.c.Ok
  x : i64ok o.x
  y : i64ok o.y

abbrev StV.val (s : StV) : Value := .agg #[.int .i64 s.n, .int .i64 s.pc, .string s.regs, .string s.cells, .int .i64 s.clock, .int .i64 s.handler, .int .i64 s.back, .bool s.pending, .bool s.halted]
abbrev ChV.val (c : ChV) : Value := .agg #[.int .i64 c.input, .int .i64 c.ticks, .bool c.interrupt]
def OpV.cells (o : OpV) : List Value := [.int .i64 o.kind, .int .i64 o.m, .string o.p, .string o.b, .int .i64 o.s.n, .int .i64 o.s.pc, .string o.s.regs, .string o.s.cells, .int .i64 o.s.clock, .int .i64 o.s.handler, .int .i64 o.s.back, .bool o.s.pending, .bool o.s.halted, .int .i64 o.c.input, .int .i64 o.c.ticks, .bool o.c.interrupt, .int .i64 o.x, .int .i64 o.y]
def OpV.val (o : OpV) : Value := .agg o.cells.toArray

end Go.Proofs.YtcmoffiigpchiabGreat

namespace Go.Proofs.YtcmoffiigpchiabGreat
namespace Mach
open _root_.Go.Proofs.YtcmoffiigpchiabGreat.Code

def setB (b : ByteArray) (i v : Nat) : ByteArray := ⟨(b.data.toList.set i (UInt8.ofNat v)).toArray⟩
theorem setB_size (b : ByteArray) (i v : Nat) : (setB b i v).size = b.size := by
  show (b.data.toList.set i (UInt8.ofNat v)).toArray.size = b.data.size
  simp

def wi (n lo hi : Int) : Bool := decide (lo ≤ n ∧ n ≤ hi)
def legal (s : StV) : Bool := wi s.n 0 10000 && wi s.pc 0 32 && decide (s.regs.size = 4) && decide (s.cells.size = 16) && wi s.clock 0 65535 && wi s.handler (-1) 31 && wi s.back (-1) 32
def chosen (c : ChV) : Bool := wi c.input 0 255 && wi c.ticks 0 255

structure Legal (s : StV) : Prop where
  n0 : 0 ≤ s.n
  n1 : s.n ≤ 10000
  pc0 : 0 ≤ s.pc
  pc1 : s.pc ≤ 32
  regs : s.regs.size = 4
  cells : s.cells.size = 16
  clock0 : 0 ≤ s.clock
  clock1 : s.clock ≤ 65535
  handler0 : -1 ≤ s.handler
  handler1 : s.handler ≤ 31
  back0 : -1 ≤ s.back
  back1 : s.back ≤ 32
structure Chosen (c : ChV) : Prop where
  input0 : 0 ≤ c.input
  input1 : c.input ≤ 255
  ticks0 : 0 ≤ c.ticks
  ticks1 : c.ticks ≤ 255
theorem legal_iff (s : StV) : legal s = true ↔ Legal s := by
  constructor
  · intro h
    simp [legal, wi] at h
    exact ⟨by omega, by omega, by omega, by omega, by omega, by omega, by omega, by omega, by omega, by omega, by omega, by omega⟩
  · intro ⟨a1, a2, a3, a4, a5, a6, a7, a8, a9, a10, a11, a12⟩
    simp [legal, wi, *]
theorem chosen_iff (c : ChV) : chosen c = true ↔ Chosen c := by
  constructor
  · intro h
    simp [chosen, wi] at h
    exact ⟨by omega, by omega, by omega, by omega⟩
  · intro ⟨a1, a2, a3, a4⟩
    simp [chosen, wi, *]

/-- The number that a byte of a class stands for. -/
def val (c b : Nat) : Nat := if c = 114 then b - 97 else if c = 46 then 0 else if 97 ≤ b then b - 87 else b - 48

def moved (op r t : Nat) (s : StV) (input : Int) : StV :=
  if op = 61 then { s with regs := setB s.regs r t }
  else if op = 43 then { s with regs := setB s.regs r ((byt s.regs r + byt s.regs t) % 256) }
  else if op = 45 then { s with regs := setB s.regs r ((byt s.regs r + 256 - byt s.regs t) % 256) }
  else if op = 60 then { s with regs := setB s.regs r (byt s.cells t) }
  else if op = 62 then { s with cells := setB s.cells t (byt s.regs r) }
  else if op = 40 then { s with regs := setB s.regs r (byt s.cells (byt s.regs t % 16)) }
  else if op = 41 then { s with cells := setB s.cells (byt s.regs t % 16) (byt s.regs r) }
  else if op = 63 then { s with regs := setB s.regs r input.toNat }
  else if op = 35 then { s with regs := setB s.regs r (s.clock % 256).toNat }
  else s
def turned (op r t : Nat) (s : StV) : StV :=
  if op = 106 then { s with pc := t }
  else if op = 122 then (if byt s.regs r = 0 then { s with pc := t } else s)
  else if op = 105 then { s with handler := t }
  else if op = 109 then { s with handler := -1 }
  else if op = 101 then (if s.back = -1 then s else { s with pc := s.back, back := -1 })
  else if op = 104 then { s with halted := true }
  else s
def arrive (s : StV) (c : ChV) : StV :=
  let p := s.pending || c.interrupt
  let k := (s.clock + c.ticks) % 65536
  if p = true ∧ s.handler ≠ -1 ∧ s.back = -1 then { s with clock := k, pending := false, back := s.pc, pc := s.handler }
  else { s with clock := k, pending := p }
def op (p : ByteArray) (pc : Nat) : Nat := byt p (3 * pc)
def fst (p : ByteArray) (pc : Nat) : Nat := val (cls2 (op p pc)) (byt p (3 * pc + 1))
def snd (p : ByteArray) (pc : Nat) : Nat := val (cls3 (op p pc)) (byt p (3 * pc + 2))
def doIns (o r t : Nat) (s : StV) (input : Int) : StV := turned o r t (moved o r t { s with pc := s.pc + 1 } input)
def exec (p : ByteArray) (s : StV) (input : Int) : StV :=
  if 3 * s.pc.toNat < p.size then doIns (op p s.pc.toNat) (fst p s.pc.toNat) (snd p s.pc.toNat) s input else { s with halted := true }
def next (p : ByteArray) (s : StV) (c : ChV) : StV :=
  let t := exec p (arrive s c) c.input
  { t with n := t.n + 1 }
def zero : StV := ⟨0, 0, ByteArray.empty, ByteArray.empty, 0, 0, 0, false, false⟩
def refusal (p : ByteArray) (s : StV) (c : ChV) : Int :=
  if (chk p).1 ≠ 0 then (chk p).1 else if legal s = false then 4 else if chosen c = false then 3 else if s.halted = true ∨ 10000 ≤ s.n then 5 else 0
def step (p : ByteArray) (s : StV) (c : ChV) : StV × Int := if refusal p s c = 0 then (next p s c, 0) else (zero, refusal p s c)

/-- What can stand in an instruction. -/
structure Fits (o r t : Nat) : Prop where
  sign : cls2 o ≠ 0
  r4 : cls2 o = 114 → r < 4
  t16 : cls3 o = 100 → t < 16
  t4 : cls3 o = 114 → t < 4
  t32 : cls3 o = 112 → t < 32

/-- What a program is. -/
structure Good (p : ByteArray) : Prop where
  short : p.size ≤ 96
  whole : p.size % 3 = 0
  all : ∀ i, i < p.size → okAt p i = true
theorem good_of {p : ByteArray} (h : (chk p).1 = 0) : Good p := by
  unfold chk at h
  split at h
  · simp at h
  · rename_i h1
    split at h
    · simp at h
    · rename_i h2
      split at h
      · rename_i h3
        refine ⟨by omega, h3, fun i hi => ?_⟩
        unfold firstBad at h2
        rw [List.find?_range_eq_none] at h2
        simpa using h2 i hi
      · simp at h
theorem Good.sign {p : ByteArray} (g : Good p) {k : Nat} (h : 3 * k < p.size) : cls2 (op p k) ≠ 0 := by
  have := g.all (3 * k) h
  unfold okAt at this
  rw [show 3 * k % 3 = 0 by omega] at this
  exact okB_sign this
theorem Good.second {p : ByteArray} (g : Good p) {k : Nat} (h : 3 * k < p.size) : stand (cls2 (op p k)) (byt p (3 * k + 1)) = true := by
  have hw := g.whole
  have := g.all (3 * k + 1) (by omega)
  unfold okAt at this
  rw [show (3 * k + 1) % 3 = 1 by omega, show (3 * k + 1) / 3 * 3 = 3 * k by omega] at this
  simpa [okB, op] using this
theorem Good.third {p : ByteArray} (g : Good p) {k : Nat} (h : 3 * k < p.size) : stand (cls3 (op p k)) (byt p (3 * k + 2)) = true := by
  have hw := g.whole
  have := g.all (3 * k + 2) (by omega)
  unfold okAt at this
  rw [show (3 * k + 2) % 3 = 2 by omega, show (3 * k + 2) / 3 * 3 = 3 * k by omega] at this
  simpa [okB, op] using this
theorem stand_val {c b : Nat} (h : stand c b = true) : (c = 114 → val c b < 4 ∧ 97 ≤ b ∧ b ≤ 100) ∧ (c = 100 → val c b < 16 ∧ ((48 ≤ b ∧ b ≤ 57) ∨ (97 ≤ b ∧ b ≤ 102))) ∧ (c = 112 → val c b < 32 ∧ ((48 ≤ b ∧ b ≤ 57) ∨ (97 ≤ b ∧ b ≤ 118))) := by
  refine ⟨fun e => ?_, fun e => ?_, fun e => ?_⟩
  · rw [stand_r b e] at h
    have h' := of_decide_eq_true h
    simp [val, e]; omega
  · rw [stand_d b e] at h
    have h' := of_decide_eq_true h
    simp [val, e]; split <;> omega
  · rw [stand_p b e] at h
    have h' := of_decide_eq_true h
    simp [val, e]; split <;> omega
theorem Good.fits {p : ByteArray} (g : Good p) {k : Nat} (h : 3 * k < p.size) : Fits (op p k) (fst p k) (snd p k) :=
  ⟨g.sign h, fun e => ((stand_val (g.second h)).1 e).1, fun e => ((stand_val (g.third h)).2.1 e).1, fun e => ((stand_val (g.third h)).1 e).1, fun e => ((stand_val (g.third h)).2.2 e).1⟩
/-- The code's numbers are the document's. -/
theorem num_sec {o b : Nat} (hs : cls2 o ≠ 0) (h : stand (cls2 o) b = true) : num (sec o) b = (val (cls2 o) b : Int) := by
  rcases cls2_cases o with e | e | e
  · have := ((stand_val h).1 e)
    simp [sec, num, val, e]; omega
  · rw [e, stand_o b (by omega) (by omega) (by omega)] at h
    have := of_decide_eq_true h
    simp [sec, num, val, e, this]
  · exact absurd e hs
theorem num_thr {o b : Nat} (hs : cls2 o ≠ 0) (h : stand (cls3 o) b = true) : num (thr o) b = (val (cls3 o) b : Int) := by
  rcases cls3_cases o hs with e | e | e | e
  · have := ((stand_val h).1 e)
    simp [thr, num, val, e]; omega
  · rw [e, stand_o b (by omega) (by omega) (by omega)] at h
    have := of_decide_eq_true h
    simp [thr, num, val, e, this]
  · have := ((stand_val h).2.1 e)
    simp [thr, num, val, e, digit]; repeat' split
    all_goals omega
  · have := ((stand_val h).2.2 e)
    simp [thr, num, val, e, digit]; repeat' split
    all_goals omega
/-- The fifteen signs. -/
theorem sign_cases {o : Nat} (h : cls2 o ≠ 0) : o = 61 ∨ o = 43 ∨ o = 45 ∨ o = 60 ∨ o = 62 ∨ o = 40 ∨ o = 41 ∨ o = 63 ∨ o = 35 ∨ o = 122 ∨ o = 106 ∨ o = 105 ∨ o = 109 ∨ o = 101 ∨ o = 104 := by
  unfold cls2 at h
  split at h
  · omega
  · split at h
    · omega
    · exact absurd rfl h
end Mach
end Go.Proofs.YtcmoffiigpchiabGreat

namespace Go.Proofs.YtcmoffiigpchiabGreat
namespace Mach
open _root_.Go.Proofs.YtcmoffiigpchiabGreat.Code

theorem moved_n (o r t : Nat) (s : StV) (i : Int) : (moved o r t s i).n = s.n := by
  unfold moved; repeat' split
  all_goals rfl
theorem turned_n (o r t : Nat) (s : StV) : (turned o r t s).n = s.n := by
  unfold turned; repeat' split
  all_goals rfl
theorem doIns_n (o r t : Nat) (s : StV) (i : Int) : (doIns o r t s i).n = s.n := by unfold doIns; rw [turned_n, moved_n]
theorem arrive_n (s : StV) (c : ChV) : (arrive s c).n = s.n := by
  unfold arrive; simp only; split <;> rfl
theorem arrive_halted (s : StV) (c : ChV) : (arrive s c).halted = s.halted := by
  unfold arrive; simp only; split <;> rfl
theorem arrive_legal {s : StV} {c : ChV} (hs : Legal s) (hc : Chosen c) : Legal (arrive s c) := by
  obtain ⟨n0, n1, pc0, pc1, hregs, hcells, hc0, hc1, hh0, hh1, hb0, hb1⟩ := hs
  obtain ⟨i0, i1, t0, t1⟩ := hc
  unfold arrive
  simp only
  split
  · rename_i h
    exact ⟨n0, n1, by simp only; omega, by simp only; omega, hregs, hcells, by simp only; omega, by simp only; omega, hh0, hh1, by simp only; omega, pc1⟩
  · exact ⟨n0, n1, pc0, pc1, hregs, hcells, by simp only; omega, by simp only; omega, hh0, hh1, hb0, hb1⟩
theorem refusal_zero {p : ByteArray} {s : StV} {c : ChV} (h : refusal p s c = 0) : Good p ∧ Legal s ∧ Chosen c ∧ s.halted = false ∧ s.n < 10000 := by
  unfold refusal at h
  by_cases h1 : (chk p).1 = 0
  · rw [if_neg (by simp [h1])] at h
    by_cases h2 : legal s = false
    · rw [if_pos h2] at h; omega
    · rw [if_neg h2] at h
      by_cases h3 : chosen c = false
      · rw [if_pos h3] at h; omega
      · rw [if_neg h3] at h
        by_cases h4 : s.halted = true ∨ 10000 ≤ s.n
        · rw [if_pos h4] at h; omega
        · exact ⟨good_of h1, (legal_iff s).1 (by simpa using h2), (chosen_iff c).1 (by simpa using h3), by simp at h4; exact h4.1, by simp at h4; exact h4.2⟩
  · rw [if_pos h1] at h
    exact absurd h h1
end Mach
end Go.Proofs.YtcmoffiigpchiabGreat

namespace Go.Proofs.YtcmoffiigpchiabGreat
namespace Mach
open _root_.Go.Proofs.YtcmoffiigpchiabGreat.Code

theorem moved_legal {o r t : Nat} {s : StV} {i : Int} (hs : Legal s) : Legal (moved o r t s i) := by
  obtain ⟨n0, n1, pc0, pc1, hregs, hcells, hc0, hc1, hh0, hh1, hb0, hb1⟩ := hs
  unfold moved; repeat' split
  all_goals exact ⟨n0, n1, pc0, pc1, by first | exact hregs | (simp only [setB_size]; exact hregs), by first | exact hcells | (simp only [setB_size]; exact hcells), hc0, hc1, hh0, hh1, hb0, hb1⟩
theorem bump_legal {s : StV} (hs : Legal s) (h : s.pc ≤ 31) : Legal { s with pc := s.pc + 1 } := by
  obtain ⟨n0, n1, pc0, pc1, hregs, hcells, hc0, hc1, hh0, hh1, hb0, hb1⟩ := hs
  exact ⟨n0, n1, by simp only; omega, by simp only; omega, hregs, hcells, hc0, hc1, hh0, hh1, hb0, hb1⟩
theorem Good.pc31 {p : ByteArray} (g : Good p) {k : Nat} (h : 3 * k < p.size) : k ≤ 31 := by
  have := g.short; have := g.whole; omega
theorem refusal_chk {p : ByteArray} {s : StV} {c : ChV} (h : refusal p s c = 0) : (chk p).1 = 0 := by
  unfold refusal at h
  by_cases h1 : (chk p).1 = 0
  · exact h1
  · rw [if_pos h1] at h
    exact absurd h h1
end Mach
end Go.Proofs.YtcmoffiigpchiabGreat

namespace Go.Proofs.YtcmoffiigpchiabGreat
namespace Crc

/-- One bit of the sum. -/
def one (v : Nat) : Nat := if v % 2 = 1 then (v / 2) ^^^ 3988292384 else v / 2
def many : Nat → Nat → Nat
  | 0, v => v
  | k + 1, v => one (many k v)
def byte (v b : Nat) : Nat := many 8 (v ^^^ b)
def over (v : Nat) : List UInt8 → Nat
  | [] => v
  | b :: r => over (byte v b.toNat) r
def sum (l : List UInt8) : Nat := 4294967295 - over 4294967295 l

theorem one_lt {v : Nat} (h : v < 4294967296) : one v < 4294967296 := by
  unfold one
  split
  · have := Nat.xor_lt_two_pow (x := v / 2) (y := 3988292384) (n := 32) (by omega) (by omega)
    simpa using this
  · omega
theorem many_lt (k : Nat) {v : Nat} (h : v < 4294967296) : many k v < 4294967296 := by
  induction k with
  | zero => exact h
  | succ k ih => exact one_lt ih
theorem xor_byte_lt {v b : Nat} (h : v < 4294967296) (hb : b < 256) : v ^^^ b < 4294967296 := by
  have := Nat.xor_lt_two_pow (x := v) (y := b) (n := 32) (by omega) (by omega)
  simpa using this
theorem byte_lt {v b : Nat} (h : v < 4294967296) (hb : b < 256) : byte v b < 4294967296 := many_lt 8 (xor_byte_lt h hb)
theorem over_lt (l : List UInt8) : ∀ {v : Nat}, v < 4294967296 → over v l < 4294967296 := by
  induction l with
  | nil => intro v h; exact h
  | cons b r ih => intro v h; exact ih (byte_lt h b.toNat_lt)
theorem over_snoc (l : List UInt8) (b : UInt8) : ∀ v, over v (l ++ [b]) = byte (over v l) b.toNat := by
  induction l with
  | nil => intro v; rfl
  | cons c r ih => intro v; exact ih _
theorem sum_lt (l : List UInt8) : sum l < 4294967296 := by unfold sum; omega

/-- Turning all 32 bits is taking away from all ones. -/
theorem flip {v : Nat} (h : v < 4294967296) : v ^^^ 4294967295 = 4294967295 - v := by
  have e : (4294967295 - v : Nat) = 2 ^ 32 - (v + 1) := by omega
  rw [e]
  apply Nat.eq_of_testBit_eq
  intro i
  rw [Nat.testBit_two_pow_sub_succ (by omega), Nat.testBit_xor, show (4294967295 : Nat) = 2 ^ 32 - 1 from rfl, Nat.testBit_two_pow_sub_one]
  by_cases hi : i < 32
  · simp [hi]
  · have : v.testBit i = false := Nat.testBit_lt_two_pow (Nat.lt_of_lt_of_le (by omega : v < 2 ^ 32) (Nat.pow_le_pow_right (by omega) (by omega)))
    simp [hi, this]

theorem xor_half (v b : Nat) : (v ^^^ b) / 2 = (v / 2) ^^^ (b / 2) := by
  exact Nat.xor_div_two
theorem xor_odd (v b : Nat) : (v ^^^ b) % 2 = (v + b) % 2 := by
  have h := Nat.xor_mod_two_pow (a := v) (b := b) (n := 1)
  simp only [Nat.pow_one] at h
  rw [h]
  rcases Nat.mod_two_eq_zero_or_one v with h1 | h1 <;> rcases Nat.mod_two_eq_zero_or_one b with h2 | h2 <;> rw [h1, h2, Nat.add_mod, h1, h2] <;> rfl
/-- The document's own step: a bit of the byte beside a bit of the sum. -/
def pairStep (v b : Nat) : Nat := if (v + b) % 2 = 1 then (v / 2) ^^^ 3988292384 else v / 2
theorem pair_one (v b : Nat) : pairStep v b ^^^ (b / 2) = one (v ^^^ b) := by
  unfold pairStep one
  rw [xor_odd, xor_half]
  split
  · rw [Nat.xor_assoc, Nat.xor_assoc, Nat.xor_comm 3988292384]
  · rfl
theorem pair_lt {v : Nat} (b : Nat) (h : v < 4294967296) : pairStep v b < 4294967296 := by
  unfold pairStep
  split
  · have := Nat.xor_lt_two_pow (x := v / 2) (y := 3988292384) (n := 32) (by omega) (by omega)
    simpa using this
  · omega
theorem and_one (v : Nat) : v &&& 1 = v % 2 := by simp
end Crc
end Go.Proofs.YtcmoffiigpchiabGreat

namespace Go.Proofs.YtcmoffiigpchiabGreat
namespace Frame

/-- A number in so many bytes, the lowest first. -/
def lowL (v : Nat) : Nat → List UInt8
  | 0 => []
  | k + 1 => lowL v k ++ [UInt8.ofNat (v / 256 ^ k % 256)]
def lowB (v k : Nat) : ByteArray := ⟨(lowL v k).toArray⟩
theorem lowL_length (v k : Nat) : (lowL v k).length = k := by
  induction k with
  | zero => rfl
  | succ k ih => simp [lowL, ih]
theorem lowB_size (v k : Nat) : (lowB v k).size = k := by
  show (lowL v k).toArray.size = k
  simp [lowL_length]
theorem lowB_zero (v : Nat) : lowB v 0 = ⟨#[]⟩ := rfl
theorem lowB_succ (v k : Nat) : lowB v (k + 1) = lowB v k ++ ⟨#[UInt8.ofNat (v / 256 ^ k % 256)]⟩ := by
  apply ByteArray.ext
  show (lowL v (k + 1)).toArray = ((lowB v k) ++ ⟨#[UInt8.ofNat (v / 256 ^ k % 256)]⟩).data
  rw [ByteArray.data_append]
  simp [lowL, lowB]

/-- So many bytes 0. -/
def zeroB (k : Nat) : ByteArray := ⟨(List.replicate k 0).toArray⟩
theorem zeroB_size (k : Nat) : (zeroB k).size = k := by
  show (List.replicate k (0 : UInt8)).toArray.size = k
  simp

def bitN (b : Bool) : Nat := if b then 1 else 0

/-- With the sum behind. -/
def sealed (t : ByteArray) : ByteArray := t ++ lowB (Crc.sum t.data.toList) 4
theorem sealed_size (t : ByteArray) : (sealed t).size = t.size + 4 := by
  unfold sealed
  rw [ByteArray.size_append, lowB_size]

/-- The bytes of a frame ahead of its sum. -/
def bodyC (k : Nat) (s : StV) : ByteArray :=
  (((⟨#[67]⟩ ++ lowB (k % 65536) 2 ++ lowB s.n.toNat 4 ++ lowB s.pc.toNat 1 ++ s.regs ++ s.cells ++ lowB s.clock.toNat 2) ++ lowB (s.handler + 1).toNat 1) ++ lowB (s.back + 1).toNat 1) ++ lowB (bitN s.pending + 2 * bitN s.halted) 1 ++ zeroB 3
def bodyE (k : Nat) (n : Nat) (c : ChV) : ByteArray :=
  ⟨#[69]⟩ ++ lowB (k % 65536) 2 ++ lowB n 4 ++ lowB c.input.toNat 1 ++ lowB c.ticks.toNat 1 ++ lowB (bitN c.interrupt) 1 ++ zeroB 26
def ofState (k : Nat) (s : StV) : ByteArray := sealed (bodyC k s)
def ofChoice (k n : Nat) (c : ChV) : ByteArray := sealed (bodyE k n c)
theorem ofState_size {k : Nat} {s : StV} (h : Mach.Legal s) : (ofState k s).size = 40 := by
  unfold ofState bodyC
  rw [sealed_size]
  simp only [ByteArray.size_append, lowB_size, zeroB_size, h.regs, h.cells]
  rfl
theorem ofChoice_size (k n : Nat) (c : ChV) : (ofChoice k n c).size = 40 := by
  unfold ofChoice bodyE
  rw [sealed_size]
  simp only [ByteArray.size_append, lowB_size, zeroB_size]
  rfl

/-- The state at the beginning. -/
def begin : StV := ⟨0, 0, zeroB 4, zeroB 16, 0, -1, -1, false, false⟩

/-- The number in bytes, the lowest first: of the bytes from a place on. -/
def highUp (s : ByteArray) (k : Nat) : Nat → Nat
  | 0 => 0
  | f + 1 => Code.byt s k + 256 * highUp s (k + 1) f
def highFrom (s : ByteArray) (k : Nat) : Nat := highUp s k (s.size - k)
def highN (s : ByteArray) : Nat := highFrom s 0
theorem highFrom_size (s : ByteArray) : highFrom s s.size = 0 := by simp [highFrom, highUp]
theorem highFrom_succ' (s : ByteArray) (k : Nat) (h : k < s.size) : highFrom s k = Code.byt s k + 256 * highFrom s (k + 1) := by
  unfold highFrom
  rw [show s.size - k = (s.size - (k + 1)) + 1 by omega]
  rfl
theorem highFrom_succ (s : ByteArray) (k : Nat) (h : k < s.size) : highFrom s k = highFrom s (k + 1) * 256 + Code.byt s k := by
  rw [highFrom_succ' s k h]; omega
theorem highUp_lt (s : ByteArray) (f : Nat) : ∀ k, highUp s k f < 256 ^ f := by
  induction f with
  | zero => intro k; simp [highUp]
  | succ f ih =>
    intro k
    have h1 := ih (k + 1)
    have h2 := Code.byt_lt s k
    simp only [highUp, Nat.pow_succ]
    omega
theorem highFrom_lt (s : ByteArray) (k : Nat) : highFrom s k < 256 ^ (s.size - k) := highUp_lt s _ k
end Frame
end Go.Proofs.YtcmoffiigpchiabGreat

namespace Go.Proofs.YtcmoffiigpchiabGreat

/-- The document's machine. -/
structure RM where
  p : ByteArray
  room : Int
  period : Int
  s : StV
  all : List ByteArray
  from_ : Nat
  last : Int

namespace RM
def isC (f : ByteArray) : Bool := decide (Code.byt f 0 = 67)
def nthC (all : List ByteArray) (j : Nat) : Bool := isC (all.getD j ⟨#[]⟩)
/-- The first frame of a state at a place or behind it. -/
def firstC (all : List ByteArray) (i : Nat) : Option Nat := (List.range all.length).find? fun j => decide (i ≤ j) && nthC all j
/-- Is there room? Else, where do the kept ones begin; are none left? -/
def place (m : RM) : RM × Bool :=
  if (m.all.length : Int) - m.from_ < m.room then (m, false)
  else match firstC m.all (m.from_ + 1) with
    | some j => ({ m with from_ := j }, false)
    | none => ({ m with from_ := m.all.length }, true)
def save (m : RM) : RM :=
  let q := (place m).1
  { q with all := q.all ++ [Frame.ofState q.all.length m.s], last := m.s.n }

theorem firstC_here {all : List ByteArray} {i j : Nat} (hi : i ≤ j) (hj : j < all.length) (hc : nthC all j = true) (hb : ∀ k, i ≤ k → k < j → nthC all k = false) : firstC all i = some j := by
  unfold firstC
  rw [List.find?_range_eq_some]
  refine ⟨by simp [hi, hc], by simpa using hj, fun k hk => ?_⟩
  by_cases h : i ≤ k
  · simp [hb k h hk]
  · simp [h]
theorem firstC_none {all : List ByteArray} {i : Nat} (hb : ∀ k, i ≤ k → k < all.length → nthC all k = false) : firstC all i = none := by
  unfold firstC
  rw [List.find?_range_eq_none]
  intro k hk
  by_cases h : i ≤ k
  · simp [hb k h hk]
  · simp [h]

/-- Frames one behind the other. -/
def joined : List ByteArray → ByteArray
  | [] => ⟨#[]⟩
  | f :: r => f ++ joined r
def traceOf (m : RM) : ByteArray := joined (m.all.drop m.from_)
theorem joined_snoc (l : List ByteArray) (f : ByteArray) : joined (l ++ [f]) = joined l ++ f := by
  induction l with
  | nil =>
    show f ++ (⟨#[]⟩ : ByteArray) = ⟨#[]⟩ ++ f
    apply ByteArray.ext
    simp [ByteArray.data_append]
  | cons g r ih =>
    show g ++ joined (r ++ [f]) = (g ++ joined r) ++ f
    rw [ih, ByteArray.append_assoc]
theorem joined_size (l : List ByteArray) (h : ∀ f ∈ l, f.size = 40) : (joined l).size = 40 * l.length := by
  induction l with
  | nil => rfl
  | cons g r ih =>
    show (g ++ joined r).size = 40 * (r.length + 1)
    rw [ByteArray.size_append, h g (by simp), ih (fun f hf => h f (by simp [hf]))]
    omega
theorem drop_take_succ (l : List ByteArray) (i k : Nat) (hk : k < l.length) (hi : i ≤ k) : (l.drop i).take (k + 1 - i) = (l.drop i).take (k - i) ++ [l.getD k ⟨#[]⟩] := by
  rw [show k + 1 - i = (k - i) + 1 by omega, List.take_add_one, List.getElem?_drop, show i + (k - i) = k by omega, List.getElem?_eq_getElem hk]
  simp [List.getD, hk]

/-- What holds of every machine. -/
structure Ok (m : RM) : Prop where
  good : Mach.Good m.p
  room0 : 2 ≤ m.room
  room1 : m.room ≤ 64
  period0 : 1 ≤ m.period
  period1 : m.period ≤ 50
  legal : Mach.Legal m.s
  from1 : m.from_ ≤ m.all.length
  frames : ∀ f ∈ m.all, f.size = 40
  last0 : 0 ≤ m.last
  last1 : m.last ≤ m.s.n
  size : m.all.length ≤ 4611686018427387904
  kept : m.all.length - m.from_ ≤ 64
theorem place_s (m : RM) : (place m).1.s = m.s := by
  unfold place
  split
  · rfl
  · split <;> rfl
theorem place_all (m : RM) : (place m).1.all = m.all := by
  unfold place
  split
  · rfl
  · split <;> rfl
theorem firstC_some {all : List ByteArray} {i j : Nat} (h : firstC all i = some j) : i ≤ j ∧ j < all.length ∧ nthC all j = true := by
  unfold firstC at h
  rw [List.find?_range_eq_some] at h
  obtain ⟨h1, h2, -⟩ := h
  simp at h1 h2
  exact ⟨h1.1, h2, h1.2⟩
/-- Behind it there is room. -/
theorem place_room {m : RM} (hm : m.Ok) (hk : (m.all.length : Int) - m.from_ ≤ m.room) : ((place m).1.all.length : Int) - (place m).1.from_ < m.room ∧ (place m).1.from_ ≤ (place m).1.all.length ∧ m.from_ ≤ (place m).1.from_ := by
  have hf := hm.from1
  have hr := hm.room0
  unfold place
  split
  · rename_i h
    exact ⟨h, hf, Nat.le_refl _⟩
  · split
    · rename_i j hj
      obtain ⟨h1, h2, -⟩ := firstC_some hj
      exact ⟨by simp only; omega, by simp only; omega, by simp only; omega⟩
    · exact ⟨by simp only; omega, Nat.le_refl _, hf⟩
theorem place_ok {m : RM} (hm : m.Ok) : (place m).1.Ok := by
  obtain ⟨good, r0, r1, q0, q1, lg, f1, fr, l0, l1, sz, kp⟩ := hm
  unfold place
  split
  · exact ⟨good, r0, r1, q0, q1, lg, f1, fr, l0, l1, sz, kp⟩
  · split
    · rename_i j hj
      obtain ⟨h1, h2, -⟩ := firstC_some hj
      exact ⟨good, r0, r1, q0, q1, lg, by simp only; omega, fr, l0, l1, sz, by simp only; omega⟩
    · exact ⟨good, r0, r1, q0, q1, lg, Nat.le_refl _, fr, l0, l1, sz, by simp only; omega⟩
end RM
end Go.Proofs.YtcmoffiigpchiabGreat

namespace Go.Proofs.YtcmoffiigpchiabGreat
namespace RM

/-- Does the step do the instruction that asks? -/
def asks (p : ByteArray) (s : StV) (c : ChV) : Bool := decide (3 * (Mach.arrive s c).pc.toNat < p.size) && decide (Mach.op p (Mach.arrive s c).pc.toNat = 63)
def counts (p : ByteArray) (s : StV) (c : ChV) : Bool := c.interrupt || decide (c.ticks ≠ 0) || (asks p s c && decide (c.input ≠ 0))
/-- A frame is written, where there is room. -/
def put (m : RM) (f : ByteArray) : RM := { m with all := m.all ++ [f] }
/-- A choice is written down. -/
def note (m : RM) (c : ChV) : RM :=
  let q := (place m).1
  let r := if (place m).2 = true then { (put q (Frame.ofState q.all.length m.s)) with last := m.s.n } else q
  put r (Frame.ofChoice r.all.length m.s.n.toNat c)
/-- What Step answers with. -/
def stepErr (m : RM) (c : ChV) : Int := if Mach.chosen c = false then 3 else if m.s.halted = true ∨ 10000 ≤ m.s.n then 5 else 0
/-- A step that can be done. -/
def went (m : RM) (c : ChV) : RM :=
  let q := if counts m.p m.s c = true then note m c else m
  { q with s := Mach.next m.p m.s c }
def stepped (m : RM) (c : ChV) : RM :=
  if m.period ≤ (went m c).s.n - (went m c).last then save (went m c) else went m c
def step (m : RM) (c : ChV) : RM × Int := if stepErr m c = 0 then (stepped m c, 0) else (m, stepErr m c)

end RM

namespace Mach
open _root_.Go.Proofs.YtcmoffiigpchiabGreat.Code
theorem turned_legal {o r t : Nat} {s : StV} (hs : Legal s) (hf : Fits o r t) : Legal (turned o r t s) := by
  obtain ⟨n0, n1, pc0, pc1, hregs, hcells, hc0, hc1, hh0, hh1, hb0, hb1⟩ := hs
  obtain ⟨hsg, r4, t16, t4, t32⟩ := hf
  unfold turned
  by_cases h1 : o = 106
  · subst h1
    have := t32 (by decide)
    rw [if_pos rfl]
    exact ⟨n0, n1, by simp only; omega, by simp only; omega, hregs, hcells, hc0, hc1, hh0, hh1, hb0, hb1⟩
  rw [if_neg h1]
  by_cases h2 : o = 122
  · subst h2
    have := t32 (by decide)
    rw [if_pos rfl]
    split
    · exact ⟨n0, n1, by simp only; omega, by simp only; omega, hregs, hcells, hc0, hc1, hh0, hh1, hb0, hb1⟩
    · exact ⟨n0, n1, pc0, pc1, hregs, hcells, hc0, hc1, hh0, hh1, hb0, hb1⟩
  rw [if_neg h2]
  by_cases h3 : o = 105
  · subst h3
    have := t32 (by decide)
    rw [if_pos rfl]
    exact ⟨n0, n1, pc0, pc1, hregs, hcells, hc0, hc1, by simp only; omega, by simp only; omega, hb0, hb1⟩
  rw [if_neg h3]
  by_cases h4 : o = 109
  · rw [if_pos h4]
    exact ⟨n0, n1, pc0, pc1, hregs, hcells, hc0, hc1, by simp only; omega, by simp only; omega, hb0, hb1⟩
  rw [if_neg h4]
  by_cases h5 : o = 101
  · rw [if_pos h5]
    split
    · exact ⟨n0, n1, pc0, pc1, hregs, hcells, hc0, hc1, hh0, hh1, hb0, hb1⟩
    · exact ⟨n0, n1, by simp only; omega, by simp only; omega, hregs, hcells, hc0, hc1, hh0, hh1, by simp only; omega, by simp only; omega⟩
  rw [if_neg h5]
  split
  · exact ⟨n0, n1, pc0, pc1, hregs, hcells, hc0, hc1, hh0, hh1, hb0, hb1⟩
  · exact ⟨n0, n1, pc0, pc1, hregs, hcells, hc0, hc1, hh0, hh1, hb0, hb1⟩
theorem next_n (p : ByteArray) (s : StV) (c : ChV) : (next p s c).n = s.n + 1 := by
  unfold next exec
  simp only
  split
  · rw [doIns_n, arrive_n]
  · simp only [arrive_n]
/-- A step leads from a state of a machine to a state of a machine. -/
theorem next_legal {p : ByteArray} {s : StV} {c : ChV} (g : Good p) (hs : Legal s) (hc : Chosen c) (hn : s.n < 10000) : Legal (next p s c) := by
  have hl := arrive_legal hs hc
  have hnn := arrive_n s c
  unfold next exec
  simp only
  split
  · rename_i h
    have h31 := g.pc31 h
    have hb := bump_legal hl (by have := hl.pc0; omega)
    have ht := turned_legal (moved_legal (i := c.input) hb (o := op p (arrive s c).pc.toNat) (r := fst p (arrive s c).pc.toNat) (t := snd p (arrive s c).pc.toNat)) (g.fits h)
    have hdn : (doIns (op p (arrive s c).pc.toNat) (fst p (arrive s c).pc.toNat) (snd p (arrive s c).pc.toNat) (arrive s c) c.input).n = s.n := by rw [doIns_n, arrive_n]
    obtain ⟨n0, n1, a1, a2, a3, a4, a5, a6, a7, a8, a9, a10⟩ := ht
    exact ⟨by simp only; rw [hdn]; have := hs.n0; omega, by simp only; rw [hdn]; omega, a1, a2, a3, a4, a5, a6, a7, a8, a9, a10⟩
  · obtain ⟨n0, n1, a1, a2, a3, a4, a5, a6, a7, a8, a9, a10⟩ := hl
    exact ⟨by simp only; omega, by simp only; omega, a1, a2, a3, a4, a5, a6, a7, a8, a9, a10⟩
end Mach
end Go.Proofs.YtcmoffiigpchiabGreat

namespace Go.Proofs.YtcmoffiigpchiabGreat
namespace Frame
theorem lowL_nought (k : Nat) : lowL 0 k = List.replicate k 0 := by
  induction k with
  | zero => rfl
  | succ k ih => simp [lowL, ih, List.replicate_succ']
theorem lowB_nought (k : Nat) : lowB 0 k = zeroB k := by unfold lowB zeroB; rw [lowL_nought]
theorem zeroB_add (a b : Nat) : zeroB a ++ zeroB b = zeroB (a + b) := by
  apply ByteArray.ext
  rw [ByteArray.data_append]
  simp [zeroB]
theorem lowB_c : lowB 67 1 = ⟨#[67]⟩ := rfl
theorem lowB_e : lowB 69 1 = ⟨#[69]⟩ := rfl
end Frame

theorem byt_left {a b : ByteArray} {j : Nat} (h : j < a.size) : Code.byt (a ++ b) j = Code.byt a j := by
  have h1 : j < (a ++ b).size := by rw [ByteArray.size_append]; omega
  rw [← Code.byt_eq _ _ h1, ← Code.byt_eq _ _ h]
  congr 1
  show (a ++ b).data[j]'h1 = a.data[j]'h
  simp only [ByteArray.data_append]
  exact Array.getElem_append_left h
theorem byt_right {a b : ByteArray} {j : Nat} (h : j < b.size) : Code.byt (a ++ b) (a.size + j) = Code.byt b j := by
  have h1 : a.size + j < (a ++ b).size := by rw [ByteArray.size_append]; omega
  rw [← Code.byt_eq _ _ h1, ← Code.byt_eq _ _ h]
  congr 1
  show (a ++ b).data[a.size + j]'h1 = b.data[j]'h
  simp only [ByteArray.data_append]
  rw [Array.getElem_append_right (show a.data.size ≤ a.size + j from Nat.le_add_right _ _)]
  congr 1
  exact Nat.add_sub_cancel_left _ _
theorem extract_right {a b : ByteArray} {i j : Nat} (hi : a.size ≤ i) : (a ++ b).extract i j = b.extract (i - a.size) (j - a.size) := by
  apply ByteArray.ext
  simp only [ByteArray.data_extract, ByteArray.data_append, Array.extract_append]
  rw [Array.extract_empty_of_size_le_start hi]
  simp only [Array.empty_append]
  rfl
theorem extract_whole (a : ByteArray) : a.extract 0 a.size = a := by simp

namespace RM
theorem byt_joined (l : List ByteArray) : (∀ f ∈ l, f.size = 40) → ∀ k : Nat, k < l.length → Code.byt (joined l) (40 * k) = Code.byt (l.getD k ⟨#[]⟩) 0 := by
  induction l with
  | nil => intro h k hk; simp at hk
  | cons g r ih =>
    intro h k hk
    have hg : g.size = 40 := h g (by simp)
    have hr : ∀ f ∈ r, f.size = 40 := fun f hf => h f (by simp [hf])
    show Code.byt (g ++ joined r) (40 * k) = _
    match k with
    | 0 => rw [byt_left (by omega)]; rfl
    | k + 1 =>
      have hk' : k < r.length := by simpa using hk
      rw [show 40 * (k + 1) = g.size + 40 * k by omega, byt_right (by rw [joined_size r hr]; omega), ih hr k hk']
      rfl
theorem joined_drop (l : List ByteArray) : (∀ f ∈ l, f.size = 40) → ∀ k : Nat, k ≤ l.length → (joined l).extract (40 * k) (joined l).size = joined (l.drop k) := by
  induction l with
  | nil =>
    intro h k hk
    have : k = 0 := by simpa using hk
    subst this
    rfl
  | cons g r ih =>
    intro h k hk
    have hg : g.size = 40 := h g (by simp)
    have hr : ∀ f ∈ r, f.size = 40 := fun f hf => h f (by simp [hf])
    match k with
    | 0 => exact extract_whole _
    | k + 1 =>
      have hk' : k ≤ r.length := by simpa using hk
      show (g ++ joined r).extract (40 * (k + 1)) (g ++ joined r).size = joined (r.drop k)
      rw [extract_right (by omega), ByteArray.size_append, ← ih hr k hk']
      congr 1
      · omega
      · omega

/-- Of the kept frames the first is of a state. -/
structure Inv (m : RM) : Prop where
  ok : m.Ok
  some_ : m.from_ < m.all.length
  head : nthC m.all m.from_ = true
  fit : (m.all.length : Int) - m.from_ ≤ m.room

/-- How many frames go, where there is no room. -/
def second (m : RM) : Nat := (firstC m.all (m.from_ + 1)).getD m.all.length - m.from_
theorem traceOf_size {m : RM} (hm : m.Ok) : (traceOf m).size = 40 * (m.all.length - m.from_) := by
  unfold traceOf
  rw [joined_size _ (fun f hf => hm.frames f (List.mem_of_mem_drop hf)), List.length_drop]
theorem place_trace {m : RM} (hm : m.Ok) : traceOf (place m).1 = if m.room * 40 ≤ ((traceOf m).size : Int) then (traceOf m).extract (40 * second m) (traceOf m).size else traceOf m := by
  have hs := traceOf_size hm
  have hf := hm.from1
  unfold place
  by_cases h : (m.all.length : Int) - m.from_ < m.room
  · rw [if_pos h, if_neg (by rw [hs]; omega)]
  · rw [if_neg h, if_pos (by rw [hs]; omega)]
    have hd : ∀ j, m.from_ ≤ j → j ≤ m.all.length → (traceOf m).extract (40 * (j - m.from_)) (traceOf m).size = joined (m.all.drop j) := by
      intro j h1 h2
      unfold traceOf
      rw [joined_drop _ (fun f hf => hm.frames f (List.mem_of_mem_drop hf)) _ (by rw [List.length_drop]; omega), List.drop_drop]
      congr 2
      omega
    cases hc : firstC m.all (m.from_ + 1) with
    | some j =>
      obtain ⟨h1, h2, -⟩ := firstC_some hc
      have e : second m = j - m.from_ := by simp [second, hc]
      rw [e, hd j (by omega) (by omega)]
      rfl
    | none =>
      have e : second m = m.all.length - m.from_ := by simp [second, hc]
      rw [e, hd _ hf (Nat.le_refl _)]
      rfl
theorem place_none {m : RM} (hi : Inv m) : (place m).2 = true ↔ traceOf (place m).1 = ⟨#[]⟩ := by
  have hne : ∀ q : RM, q.Ok → q.from_ < q.all.length → ¬ traceOf q = ⟨#[]⟩ := by
    intro q hq h e
    have := traceOf_size hq
    rw [e] at this
    have h0 : (⟨#[]⟩ : ByteArray).size = 0 := rfl
    omega
  have hp := place_ok hi.ok
  unfold place at hp ⊢
  split
  · simpa using hne m hi.ok hi.some_
  · rename_i hr
    rw [if_neg hr] at hp
    split
    · rename_i j hj
      rw [hj] at hp
      obtain ⟨h1, h2, -⟩ := firstC_some hj
      simpa using hne _ hp h2
    · simp [traceOf, joined]
theorem put_ok {m : RM} {f : ByteArray} (hm : m.Ok) (hf : f.size = 40) (hl : m.all.length < 4611686018427387904) (hr : (m.all.length : Int) - m.from_ < m.room) : (put m f).Ok := by
  obtain ⟨good, r0, r1, q0, q1, lg, f1, fr, l0, l1, sz, kp⟩ := hm
  refine ⟨good, r0, r1, q0, q1, lg, ?_, ?_, l0, l1, ?_, ?_⟩
  · simp [put]; omega
  · intro g hg
    simp [put] at hg
    rcases hg with hg | hg
    · exact fr g hg
    · rw [hg]; exact hf
  · simp [put]; omega
  · simp [put]; omega
theorem last_ok {m : RM} (hm : m.Ok) : ({ m with last := m.s.n } : RM).Ok := by
  obtain ⟨good, r0, r1, q0, q1, lg, f1, fr, l0, l1, sz, kp⟩ := hm
  exact ⟨good, r0, r1, q0, q1, lg, f1, fr, lg.n0, Int.le_refl _, sz, kp⟩
theorem nthC_old {all : List ByteArray} {f : ByteArray} {j : Nat} (h : j < all.length) : nthC (all ++ [f]) j = nthC all j := by
  simp [nthC, List.getD, h, List.getElem?_append_left h]
theorem nthC_new {all : List ByteArray} {f : ByteArray} : nthC (all ++ [f]) all.length = isC f := by
  simp [nthC, List.getD]
theorem isC_state (k : Nat) (s : StV) : isC (Frame.ofState k s) = true := by
  have h : ∃ r, Frame.ofState k s = ⟨#[67]⟩ ++ r := by
    unfold Frame.ofState Frame.sealed Frame.bodyC
    simp only [ByteArray.append_assoc]
    exact ⟨_, rfl⟩
  obtain ⟨r, e⟩ := h
  unfold isC
  rw [e, byt_left (by decide)]
  rfl
theorem place_from {m : RM} (hi : Inv m) : ((place m).2 = false → (place m).1.from_ < (place m).1.all.length ∧ nthC (place m).1.all (place m).1.from_ = true) ∧ ((place m).2 = true → (place m).1.from_ = (place m).1.all.length) := by
  have h1 := hi.some_
  have h2 := hi.head
  unfold place
  split
  · exact ⟨fun _ => ⟨h1, h2⟩, fun h => absurd h (by simp)⟩
  · split
    · rename_i j hj
      obtain ⟨a1, a2, a3⟩ := firstC_some hj
      exact ⟨fun _ => ⟨a2, a3⟩, fun h => absurd h (by simp)⟩
    · exact ⟨fun h => absurd h (by simp), fun _ => rfl⟩
theorem place_room' (m : RM) : (place m).1.room = m.room := by
  unfold place
  split
  · rfl
  · split <;> rfl
theorem save_inv {m : RM} (hi : Inv m) (hl : m.all.length < 4611686018427387904) : Inv (save m) := by
  have hal : (place m).1.all.length = m.all.length := by rw [place_all]
  have hs := place_s m
  have hr := place_room' m
  obtain ⟨p1, p2, p3⟩ := place_room hi.ok hi.fit
  have pf := place_from hi
  have po := place_ok hi.ok
  have e : save m = { put (place m).1 (Frame.ofState (place m).1.all.length m.s) with last := (put (place m).1 (Frame.ofState (place m).1.all.length m.s)).s.n } := by
    simp [save, put, hs]
  rw [e]
  generalize (place m).1 = q at *
  generalize (place m).2 = pn at *
  have hz : (Frame.ofState q.all.length m.s).size = 40 := Frame.ofState_size hi.ok.legal
  refine ⟨last_ok (put_ok po hz (by omega) (by omega)), ?_, ?_, ?_⟩
  · simp [put]; omega
  · show nthC (q.all ++ [_]) q.from_ = true
    cases pn with
    | false =>
      obtain ⟨b1, b2⟩ := pf.1 rfl
      rw [nthC_old b1]; exact b2
    | true => rw [pf.2 rfl, nthC_new]; exact isC_state _ _
  · simp [put]; omega
theorem save_len (m : RM) : (save m).all.length = m.all.length + 1 := by
  simp [save, place_all]
theorem note_inv {m : RM} (hi : Inv m) (c : ChV) (hl : m.all.length < 4611686018427387902) : Inv (note m c) ∧ (note m c).s = m.s ∧ (note m c).p = m.p ∧ (note m c).period = m.period ∧ (note m c).room = m.room ∧ (note m c).all.length ≤ m.all.length + 2 := by
  have hal : (place m).1.all.length = m.all.length := by rw [place_all]
  have hs := place_s m
  have hr := place_room' m
  have hpp : (place m).1.p = m.p ∧ (place m).1.period = m.period := by
    unfold place
    split
    · exact ⟨rfl, rfl⟩
    · split <;> exact ⟨rfl, rfl⟩
  obtain ⟨p1, p2, p3⟩ := place_room hi.ok hi.fit
  have pf := place_from hi
  have po := place_ok hi.ok
  have hr0 := hi.ok.room0
  unfold note
  simp only
  generalize (place m).1 = q at *
  generalize (place m).2 = pn at *
  cases pn with
  | false =>
    obtain ⟨b1, b2⟩ := pf.1 rfl
    simp only [Bool.false_eq_true, if_false]
    refine ⟨⟨put_ok po (Frame.ofChoice_size _ _ _) (by omega) (by omega), ?_, ?_, ?_⟩, hs, hpp.1, hpp.2, hr, ?_⟩
    · simp [put]; omega
    · show nthC (q.all ++ [_]) q.from_ = true
      rw [nthC_old b1]; exact b2
    · simp [put]; omega
    · simp [put]; omega
  | true =>
    have hz : (Frame.ofState q.all.length m.s).size = 40 := Frame.ofState_size hi.ok.legal
    have e1 : m.s.n = (put q (Frame.ofState q.all.length m.s)).s.n := by simp [put, hs]
    have hq := pf.2 rfl
    simp only [if_true]
    have o1 : ({ put q (Frame.ofState q.all.length m.s) with last := m.s.n } : RM).Ok := by
      have := last_ok (put_ok po hz (by omega) (by omega))
      rw [← e1] at this
      exact this
    refine ⟨⟨put_ok o1 (Frame.ofChoice_size _ _ _) (by simp [put]; omega) (by simp [put]; omega), ?_, ?_, ?_⟩, hs, hpp.1, hpp.2, hr, ?_⟩
    · simp [put]; omega
    · show nthC ((q.all ++ [_]) ++ [_]) q.from_ = true
      rw [nthC_old (by simp; omega), hq, nthC_new]; exact isC_state _ _
    · simp [put]; omega
    · simp [put]; omega
theorem went_inv {m : RM} {c : ChV} (hi : Inv m) (hc : Mach.Chosen c) (hn : m.s.n < 10000) (hl : m.all.length < 4611686018427387902) : Inv (went m c) ∧ (went m c).s = Mach.next m.p m.s c ∧ (went m c).p = m.p ∧ (went m c).period = m.period ∧ (went m c).all.length ≤ m.all.length + 2 := by
  have key : ∀ q : RM, Inv q → q.s = m.s → q.p = m.p → Inv { q with s := Mach.next m.p m.s c } := by
    intro q ⟨⟨good, r0, r1, q0, q1, lg, f1, fr, l0, l1, sz, kp⟩, h2, h3, h4⟩ e1 e2
    have hnn := Mach.next_n m.p m.s c
    rw [e2] at good
    rw [e1] at lg l1
    exact ⟨⟨by simp only; rw [e2]; exact good, r0, r1, q0, q1, Mach.next_legal good lg hc hn, f1, fr, l0, by simp only; omega, sz, kp⟩, h2, h3, h4⟩
  unfold went
  simp only
  by_cases h : counts m.p m.s c = true
  · simp only [h, if_true]
    obtain ⟨a1, a2, a3, a4, -, a5⟩ := note_inv hi c hl
    exact ⟨key _ a1 a2 a3, trivial, a3, a4, a5⟩
  · simp only [h]
    exact ⟨key m hi rfl rfl, trivial, rfl, rfl, Nat.le_add_right _ _⟩
theorem save_p (m : RM) : (save m).p = m.p ∧ (save m).period = m.period ∧ (save m).s = m.s := by
  unfold save place
  simp only
  split
  · exact ⟨rfl, rfl, rfl⟩
  · split <;> exact ⟨rfl, rfl, rfl⟩
theorem stepped_inv {m : RM} {c : ChV} (hi : Inv m) (hc : Mach.Chosen c) (hn : m.s.n < 10000) (hl : m.all.length < 4611686018427387901) : Inv (stepped m c) ∧ (stepped m c).s = Mach.next m.p m.s c ∧ (stepped m c).p = m.p ∧ (stepped m c).all.length ≤ m.all.length + 3 := by
  obtain ⟨a1, a2, a3, a4, a5⟩ := went_inv hi hc hn (by omega)
  unfold stepped
  split
  · exact ⟨save_inv a1 (by omega), by rw [(save_p _).2.2]; exact a2, by rw [(save_p _).1]; exact a3, by rw [save_len]; omega⟩
  · exact ⟨a1, a2, a3, by omega⟩
end RM

def RM.new (p : ByteArray) (room period : Int) : RM := ⟨p, room, period, Frame.begin, [Frame.ofState 0 Frame.begin], 0, 0⟩
theorem begin_legal : Mach.Legal Frame.begin := ⟨by decide, by decide, by decide, by decide, rfl, rfl, by decide, by decide, by decide, by decide, by decide, by decide⟩
theorem RM.new_ok {p : ByteArray} {room period : Int} (g : Mach.Good p) (r0 : 2 ≤ room) (r1 : room ≤ 64) (q0 : 1 ≤ period) (q1 : period ≤ 50) : (RM.new p room period).Ok :=
  ⟨g, r0, r1, q0, q1, begin_legal, Nat.zero_le _, fun f hf => by
    have : f = Frame.ofState 0 Frame.begin := by simpa [RM.new] using hf
    rw [this]; exact Frame.ofState_size begin_legal, Int.le_refl _, Int.le_refl _, by simp [RM.new], by simp [RM.new]⟩

/-- Which error New answers with. -/
def newErr (p : ByteArray) (room period : Int) : Int := if (Code.chk p).1 ≠ 0 then (Code.chk p).1 else if room < 2 ∨ 64 < room ∨ period < 1 ∨ 50 < period then 3 else 0

end Go.Proofs.YtcmoffiigpchiabGreat
