import Derived.Test.YtcmoffiigpchiabGreatBase
import Derived.Deep.MidRow
import Derived.Laws.IdiomStrings
import Derived.BigRegion
namespace Go.Proofs.YtcmoffiigpchiabGreat
open Go.RowKit

set_option maxHeartbeats 400000 in
theorem within_code (n lo hi : Int) (w : World) :
    Calls Tryz.prog 110 #[.int .i64 n, .int .i64 lo, .int .i64 hi] w fun e w' => e = .returned (.bool (Mach.wi n lo hi)) ∧ w' = w := by
  by_cases h1 : lo ≤ n
  · go_enter Tryz.func110, Tryz.ntmps110
    go_wp2
    go_ret
    exact ⟨by simp [Mach.wi, h1], rfl⟩
  · go_enter Tryz.func110, Tryz.ntmps110
    go_wp2
    go_ret
    exact ⟨ret_bool (by simp [Mach.wi]; omega), rfl⟩

set_option maxHeartbeats 1000000 in
theorem isState_code (s : StV) (w : World) :
    Calls Tryz.prog 94 #[s.val] w fun e w' => e = .returned (.bool (Mach.legal s)) ∧ Below w.heap.size w w' := by
  obtain ⟨n, pc, regs, cells, clock, handler, back, pending, halted⟩ := s
  go_enter Tryz.func94, Tryz.ntmps94
  go_wp2_with (go_at_call 110; refine (within_code _ _ _ _).mono ?_; rintro e w' ⟨rfl, rfl⟩)
  all_goals
    go_ret
    refine ⟨ret_bool ?_, (Below.refl _ _).alloc (Nat.le_refl _) _⟩
    simp only [Mach.wi, decide_eq_true_eq] at *
    rw [Bool.eq_iff_iff]
    simp [Mach.legal, Mach.wi]
    try omega

set_option maxHeartbeats 1000000 in
theorem isChoice_code (c : ChV) (w : World) :
    Calls Tryz.prog 95 #[c.val] w fun e w' => e = .returned (.bool (Mach.chosen c)) ∧ Below w.heap.size w w' := by
  obtain ⟨input, ticks, interrupt⟩ := c
  go_enter Tryz.func95, Tryz.ntmps95
  go_wp2_with (go_at_call 110; refine (within_code _ _ _ _).mono ?_; rintro e w' ⟨rfl, rfl⟩)
  all_goals
    go_ret
    refine ⟨ret_bool ?_, (Below.refl _ _).alloc (Nat.le_refl _) _⟩
    simp only [Mach.wi, decide_eq_true_eq] at *
    rw [Bool.eq_iff_iff]
    simp [Mach.chosen, Mach.wi]
    try omega

set_option maxHeartbeats 1000000 in
theorem legal_ref (s : StV) (w : World) :
    Calls Tryz.prog 43 #[s.val] w fun e w' => e = .returned (.bool (Mach.legal s)) ∧ Below w.heap.size w w' := by
  obtain ⟨n, pc, regs, cells, clock, handler, back, pending, halted⟩ := s
  go_enter Tryz.func43, Tryz.ntmps43
  go_wp2
  all_goals
    go_ret
    refine ⟨ret_bool ?_, (Below.refl _ _).alloc (Nat.le_refl _) _⟩
    rw [Bool.eq_iff_iff]
    simp [Mach.legal, Mach.wi]
    try omega

set_option maxHeartbeats 1000000 in
theorem chosen_ref (c : ChV) (w : World) :
    Calls Tryz.prog 44 #[c.val] w fun e w' => e = .returned (.bool (Mach.chosen c)) ∧ Below w.heap.size w w' := by
  obtain ⟨input, ticks, interrupt⟩ := c
  go_enter Tryz.func44, Tryz.ntmps44
  go_wp2
  all_goals
    go_ret
    refine ⟨ret_bool ?_, (Below.refl _ _).alloc (Nat.le_refl _) _⟩
    rw [Bool.eq_iff_iff]
    simp [Mach.chosen, Mach.wi]
    try omega

set_option maxHeartbeats 400000 in
theorem get_code (b : ByteArray) (i : Int) (h0 : 0 ≤ i) (h1 : i < b.size) (w : World) :
    Calls Tryz.prog 98 #[.string b, .int .i64 i] w fun e w' => e = .returned (.int .i64 (Code.byt b i.toNat : Nat)) ∧ w' = w := by
  obtain ⟨k, rfl⟩ := Int.eq_ofNat_of_zero_le h0
  rw [Int.toNat_natCast]
  have hk : k < b.size := by omega
  have hb := Code.byt_eq b k hk
  have hl := Code.byt_lt b k
  go_enter Tryz.func98, Tryz.ntmps98
  go_wp2
  go_ret
  exact ⟨rfl, rfl⟩

set_option maxHeartbeats 400000 in
theorem value_ref (b : Nat) (hb : b < 256) (h : 48 ≤ b) (w : World) :
    Calls Tryz.prog 101 #[.int .u8 b] w fun e w' => e = .returned (.int .i64 ((if 97 ≤ b then b - 87 else b - 48 : Nat) : Int)) ∧ w' = w := by
  by_cases h97 : 97 ≤ b
  · rw [if_pos h97]
    go_enter Tryz.func101, Tryz.ntmps101
    go_wp2
    go_ret
    exact ⟨ret_int (by omega), rfl⟩
  · rw [if_neg h97]
    go_enter Tryz.func101, Tryz.ntmps101
    go_wp2
    go_ret
    exact ⟨ret_int (by omega), rfl⟩
end Go.Proofs.YtcmoffiigpchiabGreat

namespace Go.Proofs.YtcmoffiigpchiabGreat
open Go.RowKit

set_option maxRecDepth 100000 in
set_option maxHeartbeats 400000 in
theorem put_walk (b r : ByteArray) (k n cap : Nat) (hk : k < b.size) (hn : n < 256) (C : Array Value) (w : World)
    (hconv : (convert 9 111 (.string b)).run Tryz.prog w = .ok (.slice (some ⟨w.heap.size, 0, none⟩) b.size cap) (w.drew.alloc (.cells C 5 (C.size, C.size + 1))))
    (c0 : Value) (hc : (w.alloc (.cells C 5 (C.size, C.size + 1))).cell? ⟨w.heap.size, k, none⟩ = some c0) (hz : (w.alloc (.cells C 5 (C.size, C.size + 1))).frozen? ⟨w.heap.size, k, none⟩ = false)
    (hback : (convert 111 9 (.slice (some ⟨w.heap.size, 0, none⟩) b.size cap)).run Tryz.prog ((w.alloc (.cells C 5 (C.size, C.size + 1))).setCell ⟨w.heap.size, k, none⟩ (.int .u8 n)).drew = .ok (.string r) ((w.alloc (.cells C 5 (C.size, C.size + 1))).setCell ⟨w.heap.size, k, none⟩ (.int .u8 n)).drew) :
    Calls Tryz.prog 97 #[.string b, .int .i64 k, .int .i64 n] w fun e w' => e = .returned (.string r) ∧ Below w.heap.size w w' := by
  go_enter Tryz.func97, Tryz.ntmps97
  go_wp2
  go_ret
  exact ⟨rfl, (((Below.refl _ _).alloc (Nat.le_refl _) _).setCell (Nat.le_refl _) _).drew⟩

theorem bytesRow_size (s : ByteArray) (cap : Nat) : s.size ≤ (bytesRow s cap).size := by
  unfold bytesRow
  rw [Array.size_append, Array.size_map]
  exact Nat.le_add_right _ _

theorem put_code (b : ByteArray) (i v : Int) (h0 : 0 ≤ i) (h1 : i < b.size) (v0 : 0 ≤ v) (v1 : v < 256) (w : World) :
    Calls Tryz.prog 97 #[.string b, .int .i64 i, .int .i64 v] w fun e w' => e = .returned (.string (Mach.setB b i.toNat v.toNat)) ∧ Below w.heap.size w w' := by
  obtain ⟨k, rfl⟩ := Int.eq_ofNat_of_zero_le h0
  obtain ⟨n, rfl⟩ := Int.eq_ofNat_of_zero_le v0
  rw [Int.toNat_natCast, Int.toNat_natCast]
  have hk : k < b.size := by omega
  have hconv := run_bytes_of_string (P := Tryz.prog) w 9 111 5 b Tryz.underlying9 Tryz.underlying111 Tryz.underlying5
  have hrow : ∀ j (hj : j < b.data.size), (bytesRow b (grownCap w b.size 0 5))[j]? = some (.int .u8 (b.data[j].toNat : Int)) := fun j hj => bytesRow_at b _ j hj
  have hsz := bytesRow_size b (grownCap w b.size 0 5)
  generalize grownCap w b.size 0 5 = cap at *
  generalize bytesRow b cap = C at *
  have hkd : k < b.data.size := hk
  have hc : (w.alloc (.cells C 5 (C.size, C.size + 1))).cell? ⟨w.heap.size, k, none⟩ = some (.int .u8 (b.data[k].toNat : Int)) := by
    rw [World.cell?_alloc_mark]; exact hrow k hkd
  refine put_walk b (Mach.setB b k n) k n cap hk (by omega) C w hconv _ hc ?_ ?_
  · rw [World.frozen?_alloc_mark]
    have : ¬ C.size ≤ k := by omega
    simp [this]
  · have e := run_convert_bytes_back (P := Tryz.prog) ((w.alloc (.cells C 5 (C.size, C.size + 1))).setCell ⟨w.heap.size, k, none⟩ (.int .u8 n)).drew 111 9 5 ⟨w.heap.size, 0, none⟩ cap (b.data.toList.set k (UInt8.ofNat n)) Tryz.underlying111 Tryz.underlying5 Tryz.underlying9 ?_
    · rw [List.length_set, Array.length_toList] at e
      exact e
    · intro j hj
      have hj' : j < b.data.size := by simpa using hj
      show ((w.alloc (.cells C 5 (C.size, C.size + 1))).setCell ⟨w.heap.size, k, none⟩ (.int .u8 n)).cell? _ = _
      rw [Addr.add_mid, Nat.zero_add]
      by_cases hjk : k = j
      · subst hjk
        rw [World.cell?_setCell_same _ _ _ hc]
        have : (UInt8.ofNat n).toNat = n := by simp; omega
        simp [this]
      · rw [World.cell?_setCell_other _ _ _ _ (by simp; try omega), World.cell?_alloc_mark, hrow j hj']
        simp [hjk]

theorem one_byte (n : Nat) (hn : n < 256) (w : World) :
    (convert 111 9 (.slice (some ⟨w.heap.size, 0, none⟩) 1 1)).run Tryz.prog (w.alloc (.cells #[.int .u8 n] 5)).drew = .ok (.string ⟨#[UInt8.ofNat n]⟩) (w.alloc (.cells #[.int .u8 n] 5)).drew := by
  refine run_convert_bytes_back (P := Tryz.prog) _ 111 9 5 ⟨w.heap.size, 0, none⟩ 1 [UInt8.ofNat n] Tryz.underlying111 Tryz.underlying5 Tryz.underlying9 ?_
  intro j hj
  have hj0 : j = 0 := by simpa using hj
  subst hj0
  have : (UInt8.ofNat n).toNat = n := by simp; omega
  show (w.alloc (.cells #[.int .u8 n] 5)).cell? _ = _
  rw [Addr.add_mid, Nat.zero_add, World.cell?_alloc_mark]
  simp [this]

set_option maxRecDepth 100000 in
set_option maxHeartbeats 400000 in
theorem set_pos (b : ByteArray) (k v n : Nat) (hk : k < b.size) (hb : b.size ≤ 16) (hn : n < 256) (hv : (v : Int) % 256 = n) (h2 : v < 9223372036854775807) (w : World) :
    Calls Tryz.prog 100 #[.string b, .int .i64 k, .int .i64 v] w fun e w' => e = .returned (.string (b.extract 0 k ++ ⟨#[UInt8.ofNat n]⟩ ++ b.extract (k + 1) b.size)) ∧ Below w.heap.size w w' := by
  have hcv := one_byte n hn
  have hk' : k ≤ b.size := by omega
  have hk2 : k + 1 ≤ b.size := by omega
  go_enter Tryz.func100, Tryz.ntmps100
  go_wp2
  go_region
  all_goals
    go_wp2
    go_ret
    exact ⟨by simp, ((Below.refl _ _).alloc (Nat.le_refl _) _).drew⟩

set_option maxRecDepth 100000 in
set_option maxHeartbeats 400000 in
theorem set_neg (b : ByteArray) (k : Nat) (v : Int) (n : Nat) (hk : k < b.size) (hb : b.size ≤ 16) (hn : n < 256) (hv : v + 256 = n) (h2 : v < 0) (h3 : -256 < v) (w : World) :
    Calls Tryz.prog 100 #[.string b, .int .i64 k, .int .i64 v] w fun e w' => e = .returned (.string (b.extract 0 k ++ ⟨#[UInt8.ofNat n]⟩ ++ b.extract (k + 1) b.size)) ∧ Below w.heap.size w w' := by
  have hcv := one_byte n hn
  have hk' : k ≤ b.size := by omega
  have hk2 : k + 1 ≤ b.size := by omega
  have htm : v.tmod 256 = v := by
    have : (-v).tmod 256 = -v := by rw [Int.tmod_eq_emod_of_nonneg (by omega)]; omega
    rw [Int.neg_tmod] at this
    omega
  go_enter Tryz.func100, Tryz.ntmps100
  go_wp2
  go_region
  all_goals
    go_wp2
    go_ret
    exact ⟨by simp, ((Below.refl _ _).alloc (Nat.le_refl _) _).drew⟩

theorem setB_parts (b : ByteArray) (k n : Nat) (hk : k < b.size) : b.extract 0 k ++ ⟨#[UInt8.ofNat n]⟩ ++ b.extract (k + 1) b.size = Mach.setB b k n := by
  have hd : k < b.data.toList.length := by simpa using hk
  apply ByteArray.ext
  show (b.extract 0 k ++ ⟨#[UInt8.ofNat n]⟩ ++ b.extract (k + 1) b.size).data = (b.data.toList.set k (UInt8.ofNat n)).toArray
  rw [List.set_eq_take_append_cons_drop, if_pos hd]
  apply Array.toList_inj.1
  simp [ByteArray.data_append, ByteArray.data_extract]
  exact List.take_of_length_le (by simp)

/-- The document's 'set': the number modulo 256. -/
theorem set_ref (b : ByteArray) (i v : Int) (h0 : 0 ≤ i) (h1 : i < b.size) (hb : b.size ≤ 16) (v0 : -256 < v) (v1 : v < 9223372036854775807) (w : World) :
    Calls Tryz.prog 100 #[.string b, .int .i64 i, .int .i64 v] w fun e w' => e = .returned (.string (Mach.setB b i.toNat (v % 256).toNat)) ∧ Below w.heap.size w w' := by
  obtain ⟨k, rfl⟩ := Int.eq_ofNat_of_zero_le h0
  rw [Int.toNat_natCast]
  have hk : k < b.size := by omega
  rw [← setB_parts b k _ hk]
  by_cases hv : 0 ≤ v
  · obtain ⟨n, rfl⟩ := Int.eq_ofNat_of_zero_le hv
    exact set_pos b k n ((n : Int) % 256).toNat hk hb (by omega) (by omega) (by omega) w
  · have e : (v % 256).toNat = (v + 256).toNat := by omega
    rw [e]
    exact set_neg b k v (v + 256).toNat hk hb (by omega) (by omega) (by omega) v0 w
end Go.Proofs.YtcmoffiigpchiabGreat

namespace Go.Proofs.YtcmoffiigpchiabGreat
open Go.RowKit

abbrev insVal (o r t : Nat) : Value := .agg #[.int .u8 o, .int .i64 r, .int .i64 t]

/-- What the register of an instruction becomes. -/
def resultOf (o r t : Nat) (s : StV) (input : Int) : Nat :=
  if o = 61 then t
  else if o = 43 then (Code.byt s.regs r + Code.byt s.regs t) % 256
  else if o = 45 then (Code.byt s.regs r + 256 - Code.byt s.regs t) % 256
  else if o = 60 then Code.byt s.cells t
  else if o = 40 then Code.byt s.cells (Code.byt s.regs t % 16)
  else if o = 63 then input.toNat
  else (s.clock % 256).toNat

theorem bel2 {w : World} {o p : Obj} : Below w.heap.size w ((w.alloc o).alloc p) := ((Below.refl _ _).alloc (Nat.le_refl _) o).alloc (by simp) p

set_option maxRecDepth 100000 in
set_option maxHeartbeats 1000000 in
theorem result_code (o r t : Nat) (s : StV) (input : Int) (ho : o = 61 ∨ o = 43 ∨ o = 45 ∨ o = 60 ∨ o = 40 ∨ o = 63 ∨ o = 35) (hf : Mach.Fits o r t) (hregs : s.regs.size = 4) (hcells : s.cells.size = 16) (hc0 : 0 ≤ s.clock) (hi0 : 0 ≤ input) (w : World) :
    Calls Tryz.prog 96 #[insVal o r t, s.val, .int .i64 input] w fun e w' => e = .returned (.int .i64 (resultOf o r t s input : Nat)) ∧ Below w.heap.size w w' := by
  obtain ⟨n, pc, regs, cells, clock, handler, back, pending, halted⟩ := s
  obtain ⟨hsg, r4, t16, t4, t32⟩ := hf
  simp only at hregs hcells hc0
  have br := Code.byt_lt regs r
  have bt := Code.byt_lt regs t
  rcases ho with rfl | rfl | rfl | rfl | rfl | rfl | rfl
  · have hr := r4 (by decide)
    clear r4 t16 t4 t32 hsg
    go_enter Tryz.func96, Tryz.ntmps96
    go_wp2_with (go_at_call 98; refine (get_code _ _ (by omega) (by omega) _).mono ?_; rintro e w' ⟨rfl, rfl⟩; simp only [Int.toNat_natCast])
    go_ret
    exact ⟨ret_int (by simp [resultOf]), bel2⟩
  · have hr := r4 (by decide)
    have ht := t4 (by decide)
    clear r4 t16 t4 t32 hsg
    go_enter Tryz.func96, Tryz.ntmps96
    go_wp2_with (go_at_call 98; refine (get_code _ _ (by omega) (by omega) _).mono ?_; rintro e w' ⟨rfl, rfl⟩; simp only [Int.toNat_natCast])
    go_ret
    exact ⟨ret_int (by simp [resultOf]), bel2⟩
  · have hr := r4 (by decide)
    have ht := t4 (by decide)
    clear r4 t16 t4 t32 hsg
    go_enter Tryz.func96, Tryz.ntmps96
    go_wp2_with (go_at_call 98; refine (get_code _ _ (by omega) (by omega) _).mono ?_; rintro e w' ⟨rfl, rfl⟩; simp only [Int.toNat_natCast])
    go_ret
    exact ⟨ret_int (by simp [resultOf]; omega), bel2⟩
  · have hr := r4 (by decide)
    have ht := t16 (by decide)
    clear r4 t16 t4 t32 hsg
    go_enter Tryz.func96, Tryz.ntmps96
    go_wp2_with (go_at_call 98; refine (get_code _ _ (by omega) (by omega) _).mono ?_; rintro e w' ⟨rfl, rfl⟩; simp only [Int.toNat_natCast])
    go_ret
    exact ⟨ret_int (by simp [resultOf]), bel2⟩
  · have hr := r4 (by decide)
    have ht := t4 (by decide)
    have e16 : ((Code.byt regs t : Int) % 16).toNat = Code.byt regs t % 16 := by omega
    have E16 := hide e16
    clear r4 t16 t4 t32 hsg e16
    go_enter Tryz.func96, Tryz.ntmps96
    go_wp2_with (go_at_call 98; refine (get_code _ _ (by omega) (by omega) _).mono ?_; rintro e w' ⟨rfl, rfl⟩; simp only [Int.toNat_natCast])
    go_ret
    exact ⟨ret_int (by simp [resultOf, unhide E16]), bel2⟩
  · have hr := r4 (by decide)
    clear r4 t16 t4 t32 hsg
    go_enter Tryz.func96, Tryz.ntmps96
    go_wp2_with (go_at_call 98; refine (get_code _ _ (by omega) (by omega) _).mono ?_; rintro e w' ⟨rfl, rfl⟩; simp only [Int.toNat_natCast])
    go_ret
    exact ⟨ret_int (by simp [resultOf]; omega), bel2⟩
  · have hr := r4 (by decide)
    clear r4 t16 t4 t32 hsg
    go_enter Tryz.func96, Tryz.ntmps96
    go_wp2_with (go_at_call 98; refine (get_code _ _ (by omega) (by omega) _).mono ?_; rintro e w' ⟨rfl, rfl⟩; simp only [Int.toNat_natCast])
    go_ret
    exact ⟨ret_int (by simp [resultOf]; omega), bel2⟩


end Go.Proofs.YtcmoffiigpchiabGreat

namespace Go.Proofs.YtcmoffiigpchiabGreat
open Go.RowKit

theorem bel3 {w : World} {o p q : Obj} : Below w.heap.size w (((w.alloc o).alloc p).alloc q) := ((((Below.refl _ _).alloc (Nat.le_refl _) o).alloc (by simp) p).alloc (by simp; omega) q)
theorem ret_val {a b : Value} (h : a = b) : Ending.returned a = .returned b := by rw [h]

set_option maxRecDepth 100000 in
set_option maxHeartbeats 1000000 in
theorem turn_code (o r t : Nat) (s : StV) (ho : o = 106 ∨ o = 122 ∨ o = 105 ∨ o = 109 ∨ o = 101 ∨ o = 104) (hf : Mach.Fits o r t) (hregs : s.regs.size = 4) (hb0 : -1 ≤ s.back) (w : World) :
    Calls Tryz.prog 99 #[insVal o r t, s.val] w fun e w' => e = .returned (Mach.turned o r t s).val ∧ Below w.heap.size w w' := by
  obtain ⟨n, pc, regs, cells, clock, handler, back, pending, halted⟩ := s
  obtain ⟨hsg, r4, t16, t4, t32⟩ := hf
  simp only at hregs hb0
  rcases ho with rfl | rfl | rfl | rfl | rfl | rfl
  · clear r4 t16 t4 t32 hsg
    go_enter Tryz.func99, Tryz.ntmps99
    go_wp2
    exact bodyPost_ret (v := StV.val ⟨n, t, regs, cells, clock, handler, back, pending, halted⟩) (by simp [results, Tryz.results99, go_sem]) rfl ⟨ret_val (by simp [Mach.turned]), bel3⟩
  · have hr := r4 (by decide)
    clear r4 t16 t4 t32 hsg
    by_cases hz : Code.byt regs r = 0
    · have hz1 : ((Code.byt regs r : Int) == 0) = true := by simp [hz]
      have HZ := hide hz
      clear hz
      go_enter Tryz.func99, Tryz.ntmps99
      go_wp2_with (go_at_call 98; refine (get_code _ _ (by omega) (by omega) _).mono ?_; rintro e w' ⟨rfl, rfl⟩; simp only [Int.toNat_natCast])
      exact bodyPost_ret (v := StV.val ⟨n, t, regs, cells, clock, handler, back, pending, halted⟩) (by simp [results, Tryz.results99, go_sem]) rfl ⟨ret_val (by simp [Mach.turned, unhide HZ]), bel3⟩
    · have hz1 : ((Code.byt regs r : Int) == 0) = false := by simp [hz]
      have HZ := hide hz
      clear hz
      go_enter Tryz.func99, Tryz.ntmps99
      go_wp2_with (go_at_call 98; refine (get_code _ _ (by omega) (by omega) _).mono ?_; rintro e w' ⟨rfl, rfl⟩; simp only [Int.toNat_natCast])
      exact bodyPost_ret (v := StV.val ⟨n, pc, regs, cells, clock, handler, back, pending, halted⟩) (by simp [results, Tryz.results99, go_sem]) rfl ⟨ret_val (by simp [Mach.turned, unhide HZ]), bel3⟩
  · clear r4 t16 t4 t32 hsg
    go_enter Tryz.func99, Tryz.ntmps99
    go_wp2
    exact bodyPost_ret (v := StV.val ⟨n, pc, regs, cells, clock, t, back, pending, halted⟩) (by simp [results, Tryz.results99, go_sem]) rfl ⟨ret_val (by simp [Mach.turned]), bel3⟩
  · clear r4 t16 t4 t32 hsg
    go_enter Tryz.func99, Tryz.ntmps99
    go_wp2
    exact bodyPost_ret (v := StV.val ⟨n, pc, regs, cells, clock, -1, back, pending, halted⟩) (by simp [results, Tryz.results99, go_sem]) rfl ⟨ret_val (by simp [Mach.turned]), bel3⟩
  · clear r4 t16 t4 t32 hsg
    by_cases hz : 0 ≤ back
    · go_enter Tryz.func99, Tryz.ntmps99
      go_wp2
      exact bodyPost_ret (v := StV.val ⟨n, back, regs, cells, clock, handler, -1, pending, halted⟩) (by simp [results, Tryz.results99, go_sem]) rfl ⟨ret_val (by simp [Mach.turned, show ¬ back = -1 by omega]), bel3⟩
    · go_enter Tryz.func99, Tryz.ntmps99
      go_wp2
      exact bodyPost_ret (v := StV.val ⟨n, pc, regs, cells, clock, handler, back, pending, halted⟩) (by simp [results, Tryz.results99, go_sem]) rfl ⟨ret_val (by simp [Mach.turned, show back = -1 by omega]), bel3⟩
  · clear r4 t16 t4 t32 hsg
    go_enter Tryz.func99, Tryz.ntmps99
    go_wp2
    exact bodyPost_ret (v := StV.val ⟨n, pc, regs, cells, clock, handler, back, pending, true⟩) (by simp [results, Tryz.results99, go_sem]) rfl ⟨ret_val (by simp [Mach.turned]), bel3⟩

end Go.Proofs.YtcmoffiigpchiabGreat
