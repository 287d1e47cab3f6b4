import Derived.WalkKit
import Derived.Test.YtbjplijhoibclaaCode
namespace Go.Proofs.Ytbjplijhoibclaa

/-- A state, as the cells of its struct. -/
structure StV where
  n : Int
  pc : Int
  regs : ByteArray
  cells : ByteArray
  clock : Int
  handler : Int
  back : Int
  pending : Bool
  halted : Bool
/-- A choice likewise. -/
structure ChV where
  input : Int
  ticks : Int
  interrupt : Bool
/-- A step of a script likewise. -/
structure OpV where
  kind : Int
  m : Int
  p : ByteArray
  b : ByteArray
  s : StV
  c : ChV
  x : Int
  y : Int

def i64ok (n : Int) : Prop := -9223372036854775808 ≤ n ∧ n ≤ 9223372036854775807
structure StV.Ok (s : StV) : Prop where
  n : i64ok s.n
  pc : i64ok s.pc
  regs : s.regs.size ≤ maxLen
  cells : s.cells.size ≤ maxLen
  clock : i64ok s.clock
  handler : i64ok s.handler
  back : i64ok s.back
structure ChV.Ok (c : ChV) : Prop where
  input : i64ok c.input
  ticks : i64ok c.ticks
structure OpV.Ok (o : OpV) : Prop where
  kind : i64ok o.kind
  m : i64ok o.m
  p : o.p.size ≤ maxLen
  b : o.b.size ≤ maxLen
  s : o.s.Ok
  c : o.c.Ok
  x : i64ok o.x
  y : i64ok o.y

abbrev StV.val (s : StV) : Value := .agg #[.int .i64 s.n, .int .i64 s.pc, .string s.regs, .string s.cells, .int .i64 s.clock, .int .i64 s.handler, .int .i64 s.back, .bool s.pending, .bool s.halted]
abbrev ChV.val (c : ChV) : Value := .agg #[.int .i64 c.input, .int .i64 c.ticks, .bool c.interrupt]
def OpV.cells (o : OpV) : List Value := [.int .i64 o.kind, .int .i64 o.m, .string o.p, .string o.b, .int .i64 o.s.n, .int .i64 o.s.pc, .string o.s.regs, .string o.s.cells, .int .i64 o.s.clock, .int .i64 o.s.handler, .int .i64 o.s.back, .bool o.s.pending, .bool o.s.halted, .int .i64 o.c.input, .int .i64 o.c.ticks, .bool o.c.interrupt, .int .i64 o.x, .int .i64 o.y]
def OpV.val (o : OpV) : Value := .agg o.cells.toArray

end Go.Proofs.Ytbjplijhoibclaa
