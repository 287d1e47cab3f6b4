import Derived.Test.YtcmoffiigpchiaaKeepE
import Derived.Deep.RegionWith
namespace Go.Proofs.Ytcmoffiigpchiaa
open Go.RowKit
namespace Keep

/-- The cells of states, one behind the other. -/
def stC (s : StV) : List Value := [.int .i64 s.n, .int .i64 s.pc, .string s.regs, .string s.cells, .int .i64 s.clock, .int .i64 s.handler, .int .i64 s.back, .bool s.pending, .bool s.halted]
def rowS (l : List StV) : List Value := l.flatMap stC
theorem infoState : (Try.prog.info? 42).map (fun i => (i.zero, i.size, i.bytes)) = some (some (StV.val ⟨0, 0, ⟨#[]⟩, ⟨#[]⟩, 0, 0, 0, false, false⟩), 9, 80) := by kernel_rfl

/-- A film, as it lies: the struct at block fb, its states in block r. -/
structure FilmAt (w : World) (B fb xb r cap : Nat) (p : ByteArray) (m : RM) (l : List StV) (saves : Int) : Prop where
  box : Box w fb #[.string p, .pointer (some ⟨xb, 0, none⟩), .slice (some ⟨r, 0, none⟩) l.length cap, .int .i64 saves]
  code : Box w xb m.ccells
  row : w.ownsRow B 42 9 (.slice (some ⟨r, 0, none⟩) l.length cap) l.length (rowS l)
  inv : m.Inv
  pm : m.p = p
  n1 : fb ≠ xb
  n2 : fb ≠ r
  n3 : xb ≠ r
  gf : B ≤ fb
  gx : B ≤ xb

theorem heap_new (w : World) (o : Obj) : (w.alloc o).heap[w.heap.size]? = some o := by
  show (w.heap.push o)[w.heap.size]? = some o
  simp
theorem film_new {w : World} {B xb : Nat} {p : ByteArray} {m : RM} {s : StV} (hB : B ≤ w.heap.size) (hx : Box w xb m.ccells) (gx : B ≤ xb) (hi : m.Inv) (hp : m.p = p) :
    FilmAt ((w.alloc (.cells #[.int .i64 s.n, .int .i64 s.pc, .string s.regs, .string s.cells, .int .i64 s.clock, .int .i64 s.handler, .int .i64 s.back, .bool s.pending, .bool s.halted] 42)).alloc (.cells #[.string p, .pointer (some ⟨xb, 0, none⟩), .slice (some ⟨w.heap.size, 0, none⟩) 1 1, .int .i64 0] 31)) B (w.heap.size + 1) xb w.heap.size 1 p m [s] 0 := by
  have hl := hx.lt
  have e : ∀ X : Obj, (w.alloc X).heap.size = w.heap.size + 1 := fun X => by simp
  refine ⟨?_, (hx.alloc _).alloc _, ⟨rfl, .inr ⟨w.heap.size, 1, #[.int .i64 s.n, .int .i64 s.pc, .string s.regs, .string s.cells, .int .i64 s.clock, .int .i64 s.handler, .int .i64 s.back, .bool s.pending, .bool s.halted], rfl, hB, ?_, Nat.le_refl _, by decide, rfl, rfl⟩⟩, hi, hp, by omega, by omega, by omega, by omega, gx⟩
  · have := Box.new (w.alloc (.cells #[.int .i64 s.n, .int .i64 s.pc, .string s.regs, .string s.cells, .int .i64 s.clock, .int .i64 s.handler, .int .i64 s.back, .bool s.pending, .bool s.halted] 42)) #[.string p, .pointer (some ⟨xb, 0, none⟩), .slice (some ⟨w.heap.size, 0, none⟩) 1 1, .int .i64 0] 31
    rw [e] at this
    exact this
  · rw [Below.heap_alloc _ _ _ (by rw [e]; omega)]
    exact heap_new w _

set_option maxRecDepth 100000 in
set_option maxHeartbeats 1000000 in
theorem begin_k (p : ByteArray) (hp : (Code.chk p).1 = 0) (room period : Int) (h1 : i64ok room) (h2 : i64ok period) (w : World) :
    Calls Try.prog 9 #[.string p, .int .i64 room, .int .i64 period] w fun e w' => ∃ fb xb r cap, e = .returned (.pointer (some ⟨fb, 0, none⟩)) ∧ FilmAt w' w.heap.size fb xb r cap p (RM.new p (2 + (kp room 63 : Int)) (1 + (kp period 50 : Int))) [Frame.begin] 0 ∧ Below w.heap.size w w' := by
  have hsh := (Mach.good_of hp).short
  have k1 := kp_lt room (n := 63) (by decide)
  have k2 := kp_lt period (n := 50) (by decide)
  have HH := hide head_k
  have HP1 := hide (pick_63 room h1)
  have HP2 := hide (pick_50 period h2)
  have HN := hide (newC_ok p (2 + (kp room 63 : Int)) (1 + (kp period 50 : Int)) (by unfold maxLen; omega) hp (by omega) (by omega) (by omega) (by omega))
  have HI := hide (RM.new_inv (room := 2 + (kp room 63 : Int)) (period := 1 + (kp period 50 : Int)) (Mach.good_of hp) (by omega) (by omega) (by omega) (by omega))
  have HS : Hid (∀ b w, Box w b (RM.new p (2 + (kp room 63 : Int)) (1 + (kp period 50 : Int))).ccells → Calls Try.prog 23 #[.pointer (some ⟨b, 0, none⟩)] w fun e w' => e = .returned Frame.begin.val ∧ Below w.heap.size w w') := hide (fun b w h => state_code b _ w h)
  have HF := hide first_k
  have HSm := hide (same_k Frame.begin)
  have HPM : Hid ((RM.new p (2 + (kp room 63 : Int)) (1 + (kp period 50 : Int))).p = p) := hide rfl
  have hw1 : (0 : Int) ≤ (kp room 63 : Int) := by omega
  have hw2 : (0 : Int) ≤ (kp period 50 : Int) := by omega
  generalize RM.new p (2 + (kp room 63 : Int)) (1 + (kp period 50 : Int)) = mn at *
  generalize kp room 63 = ra at *
  generalize kp period 50 = pa at *
  generalize Frame.begin = s0 at *
  obtain ⟨n, pc, regs, cells, clock, handler, back, pending, halted⟩ := s0
  go_enter Try.func9, Try.ntmps9
  go_wp2_with fail
  refine (unhide HH _).mono ?_
  rintro e w1 ⟨rfl, hb1⟩
  have L1 := hide hb1
  clear hb1
  go_wp2_with fail
  refine (unhide HP1 _).mono ?_
  rintro e w' ⟨rfl, hw⟩
  obtain rfl := hw.symm
  go_wp2_with fail
  refine (unhide HP2 _).mono ?_
  rintro e w' ⟨rfl, hw⟩
  obtain rfl := hw.symm
  go_wp2_with fail
  refine (unhide HN _).mono ?_
  rintro e w2 ⟨xb, rfl, hx, hxb, hb2⟩
  have X2 := hide hx
  have L2 := hide (bel_then (unhide L1) hb2)
  have s1 := (unhide L1).size
  clear hx hb2
  go_wp2_with fail
  refine (unhide HS xb _ (unhide X2)).mono ?_
  rintro e w3 ⟨rfl, hb3⟩
  have X3 := hide ((unhide X2).next hb3)
  have L3 := hide (bel_then (unhide L2) hb3)
  clear hb3
  go_upto_region 8 with fail
  go_region_held3 (fun w' => w'.cell? ⟨w3.heap.size, 0, none⟩ = some (.int .i64 n) ∧ w'.cell? ⟨w3.heap.size, 1, none⟩ = some (.int .i64 pc) ∧ w'.cell? ⟨w3.heap.size, 2, none⟩ = some (.string regs) ∧ w'.cell? ⟨w3.heap.size, 3, none⟩ = some (.string cells) ∧ w'.cell? ⟨w3.heap.size, 4, none⟩ = some (.int .i64 clock) ∧ w'.cell? ⟨w3.heap.size, 5, none⟩ = some (.int .i64 handler) ∧ w'.cell? ⟨w3.heap.size, 6, none⟩ = some (.int .i64 back) ∧ w'.cell? ⟨w3.heap.size, 7, none⟩ = some (.bool pending) ∧ w'.cell? ⟨w3.heap.size, 8, none⟩ = some (.bool halted)) (first | go_keep | (go_simp; done)) (first | (go_at_call 25; refine (unhide HF _).mono ?_; rintro e w4 ⟨rfl, hb⟩; have S4 := hide ((Box.new w3 _ _).drew.next hb); have B4 := hide (bel_alloc (bel_undrew hb)); clear hb; obtain ⟨c4, f4, g4⟩ := unhide S4) | (go_at_call 24; refine (unhide HSm _).mono ?_; rintro e w5 ⟨rfl, hb⟩; have S5 := hide ((unhide S4).next hb); have B5 := hide (bel_then (unhide B4) hb); clear hb; obtain ⟨c5, f5, g5⟩ := unhide S5))
  all_goals
    have X5 := hide ((unhide X3).next (unhide B5))
    have L5 := hide (bel_then (unhide L3) (unhide B5))
    go_wp2_with fail
    go_ret
    have s5 := (unhide L5).size
    have x5 := (unhide X5).lt
    exact ⟨w5.heap.size + 1, xb, w5.heap.size, 1, rfl, film_new (s := ⟨n, pc, regs, cells, clock, handler, back, pending, halted⟩) s5 (unhide X5) (by omega) (unhide HI) (unhide HPM), ((unhide L5).alloc s5 _).alloc (by simp; omega) _⟩
end Keep
end Go.Proofs.Ytcmoffiigpchiaa
