import Derived.Test.YtcmoffiigpchiaaGreatBase
import Derived.Test.YtcmoffiigpchiaaGreatBoxW
import Derived.Test.YtcmoffiigpchiaaGreatSumW
import Derived.Laws.AppendOwn
import Derived.Test.YtcmoffiigpchiaaGreatRefuW
import Derived.Test.YtcmoffiigpchiaaGreatDoW
import Derived.Deep.DeepCutAuto
import Derived.Deep.RegionWith
namespace Go.Proofs.YtcmoffiigpchiaaGreat
open Go.RowKit

theorem info8 : (Tryz.prog.info? 5).map (fun i => (i.zero, i.size, i.bytes)) = some (some (.int .u8 0), 1, 1) := by kernel_rfl

def bvals (l : List UInt8) : List Value := l.map fun b => .int .u8 (b.toNat : Int)
/-- A slice of bytes that a call made for itself. -/
def Bytes (w wr : World) (t : Value) (l : List UInt8) : Prop :=
  ∃ g cap, t = .slice (some ⟨g, 0, none⟩) l.length cap ∧ wr.ownsRow w.heap.size 5 1 t l.length (bvals l) ∧ Below w.heap.size w wr
theorem Bytes.made (w : World) : Bytes w (w.alloc (.cells #[] 5)) (.slice (some ⟨w.heap.size, 0, none⟩) 0 0) [] :=
  ⟨_, 0, rfl, World.ownsRow_made w #[] 0 (Nat.le_refl _) (Nat.zero_le _) (by simp), (Below.refl _ _).alloc (Nat.le_refl _) _⟩
theorem Bytes.snoc {w wr w1 : World} {g cap n : Nat} {l : List UInt8} {v' : Value} {b : UInt8} {o : Obj} (hn : l.length = n)
    (hg : wr.ownsRow w.heap.size 5 1 (.slice (some ⟨g, 0, none⟩) n cap) n (bvals l)) (hb : Below w.heap.size w wr)
    (h1 : w1.ownsRow w.heap.size 5 1 v' (n + 1) (bvals l ++ [.int .u8 (b.toNat : Int)])) (h2 : (wr.alloc o).grownBy w1 (Value.slice (some ⟨g, 0, none⟩) n cap).ownBlock) :
    Bytes w w1 v' (l ++ [b]) := by
  subst hn
  have hlt := hg.lt g rfl
  have hbel : Below w.heap.size w w1 := (hb.alloc hb.size o).grown h2 (by have := hb.size; simp; omega) (fun k hk => by
    simp [Value.ownBlock] at hk
    omega)
  have e : bvals (l ++ [b]) = bvals l ++ [.int .u8 (b.toNat : Int)] := by simp [bvals]
  have hl : (l ++ [b]).length = l.length + 1 := by simp
  rcases h1.2 with ⟨_, h0⟩ | ⟨g', cap', cur, hv, _⟩
  · omega
  · exact ⟨g', cap', by rw [hl]; exact hv, by rw [hl, e]; exact h1, hbel⟩
theorem bytes_back {w wr : World} {g n cap : Nat} {l : List UInt8} (hn : l.length = n) (h : wr.ownsRow w.heap.size 5 1 (.slice (some ⟨g, 0, none⟩) n cap) n (bvals l)) :
    (convert 111 9 (.slice (some ⟨g, 0, none⟩) n cap)).run Tryz.prog wr = .ok (.string ⟨l.toArray⟩) wr := by
  subst hn
  refine run_convert_bytes_back (P := Tryz.prog) wr 111 9 5 ⟨g, 0, none⟩ cap l Tryz.underlying111 Tryz.underlying5 Tryz.underlying9 ?_
  intro j hj
  exact h.cells (g := g) rfl j _ (by simp [bvals, hj])
theorem news_byte (w : World) (v : Value) (t : TypeId) : ∀ j u, [v][j]? = some u → (w.alloc (.cells #[v] t)).cell? ((⟨w.heap.size, 0, none⟩ : Addr).add j) = some u := by
  intro j u hu
  match j, hu with
  | 0, hu =>
    simp at hu
    subst hu
    rw [Addr.add_mid, Nat.zero_add, World.cell?_alloc_mark]
    rfl

set_option maxRecDepth 100000 in
set_option maxHeartbeats 1000000 in
theorem low_code (v size : Nat) (hs : size ≤ 64) (w : World) :
    Calls Tryz.prog 120 #[.int .i64 v, .int .i64 size] w fun e w' => e = .returned (.string (Frame.lowB v size)) ∧ Below w.heap.size w w' := by
  obtain ⟨i0, hi, hz0, hz1, hz2⟩ := info_parts info8
  go_enter Tryz.func120, Tryz.ntmps120
  go_wp2
  go_loopw [0, 5, 6] (fun x t i wr => ∃ k : Nat, k ≤ size ∧ i = .int .i64 k ∧ x = .int .i64 (v / 256 ^ k : Nat) ∧ Bytes w wr t (Frame.lowL v k)) (fun _ _ i _ => size - (intOf i).toNat)
  case atStart => exact ⟨0, Nat.zero_le _, rfl, by simp, Bytes.made w⟩
  case round =>
    obtain ⟨k, hk, rfl, rfl, g, cap, rfl, hown, hb⟩ := hrel
    have hlen := Frame.lowL_length v k
    rw [hlen] at hown ⊢
    by_cases hlt : k < size
    · have hu : v / 256 ^ k ≤ v := Nat.div_le_self _ _
      have HS : Hid (Frame.lowL v (k + 1) = Frame.lowL v k ++ [UInt8.ofNat (v / 256 ^ k % 256)]) := hide rfl
      have HD : Hid (v / 256 ^ (k + 1) = v / 256 ^ k / 256) := hide (by rw [Nat.pow_succ, Nat.div_div_eq_div_mul])
      generalize v / 256 ^ k = u at *
      have hm : (u : Int) % 256 = ((u % 256 : Nat) : Int) := by omega
      have hml : u % 256 < 256 := by omega
      generalize u % 256 = m at *
      have HO := hide hown
      have HB := hide hb
      have hbs := hb.size
      clear hown hb
      go_wp2_with (at_builtin; refine wpList_append_own _ rfl _ _ 111 rfl w.heap.size 5 i0 (.int .u8 0) 1 1 Tryz.underlying111 hi hz0 hz1 hz2 rfl (by decide) _ _ _ rfl ((unhide HO).alloc _) ⟨wr.heap.size, 0, none⟩ 1 1 [.int .u8 m] rfl rfl (news_byte wr _ _) (by intro u hu; simp at hu; subst hu; rfl) (by unfold maxLen; omega) (by omega) (by simp; omega) ?_; intro v' w1 hown' hgrow _; have O1 := hide hown'; have G1 := hide hgrow; clear hown' hgrow)
      go_roundw
      case rel =>
        refine ⟨k + 1, by omega, by go_num, by rw [HD.out]; go_num, ?_⟩
        have hmm : ((UInt8.ofNat m).toNat : Int) = m := by
          have : (UInt8.ofNat m).toNat = m := by simp; omega
          rw [this]
        have o1 := unhide O1
        have o0 := unhide HO
        have g1 := unhide G1
        rw [← hmm] at o1
        rw [HS.out]
        exact Bytes.snoc hlen o0 (unhide HB) o1 g1
      case measure => simp [intOf]; omega
    · have hkz : k = size := by omega
      subst hkz
      have hcv := bytes_back hlen hown
      have HB := hide hb
      clear hown hb
      go_wp2
      go_ret
      exact ⟨rfl, unhide HB⟩
theorem low_i (v size : Int) (v0 : 0 ≤ v) (s0 : 0 ≤ size) (s1 : size ≤ 64) (w : World) :
    Calls Tryz.prog 120 #[.int .i64 v, .int .i64 size] w fun e w' => e = .returned (.string (Frame.lowB v.toNat size.toNat)) ∧ Below w.heap.size w w' := by
  obtain ⟨n, rfl⟩ := Int.eq_ofNat_of_zero_le v0
  obtain ⟨k, rfl⟩ := Int.eq_ofNat_of_zero_le s0
  rw [Int.toNat_natCast, Int.toNat_natCast]
  exact low_code n k (by omega) w
theorem low_1 (v : Int) (v0 : 0 ≤ v) (w : World) : Calls Tryz.prog 120 #[.int .i64 v, .int .i64 1] w fun e w' => e = .returned (.string (Frame.lowB v.toNat 1)) ∧ Below w.heap.size w w' := low_i v 1 v0 (by decide) (by decide) w
theorem low_2 (v : Int) (v0 : 0 ≤ v) (w : World) : Calls Tryz.prog 120 #[.int .i64 v, .int .i64 2] w fun e w' => e = .returned (.string (Frame.lowB v.toNat 2)) ∧ Below w.heap.size w w' := low_i v 2 v0 (by decide) (by decide) w
theorem low_4 (v : Int) (v0 : 0 ≤ v) (w : World) : Calls Tryz.prog 120 #[.int .i64 v, .int .i64 4] w fun e w' => e = .returned (.string (Frame.lowB v.toNat 4)) ∧ Below w.heap.size w w' := low_i v 4 v0 (by decide) (by decide) w

set_option maxRecDepth 100000 in
set_option maxHeartbeats 1000000 in
theorem noughts_code (size : Nat) (hs : size ≤ 64) (w : World) :
    Calls Tryz.prog 78 #[.int .i64 size] w fun e w' => e = .returned (.string (Frame.zeroB size)) ∧ Below w.heap.size w w' := by
  obtain ⟨i0, hi, hz0, hz1, hz2⟩ := info_parts info8
  go_enter Tryz.func78, Tryz.ntmps78
  go_wp2
  go_loopw [3, 4] (fun t i wr => ∃ k : Nat, k ≤ size ∧ i = .int .i64 k ∧ Bytes w wr t (List.replicate k 0)) (fun _ i _ => size - (intOf i).toNat)
  case atStart => exact ⟨0, Nat.zero_le _, rfl, Bytes.made w⟩
  case round =>
    obtain ⟨k, hk, rfl, g, cap, rfl, hown, hb⟩ := hrel
    have hlen : (List.replicate k (0 : UInt8)).length = k := List.length_replicate
    rw [hlen] at hown ⊢
    by_cases hlt : k < size
    · have HO := hide hown
      have HB := hide hb
      have hbs := hb.size
      clear hown hb
      go_wp2_with (at_builtin; refine wpList_append_own _ rfl _ _ 111 rfl w.heap.size 5 i0 (.int .u8 0) 1 1 Tryz.underlying111 hi hz0 hz1 hz2 rfl (by decide) _ _ _ rfl ((unhide HO).alloc _) ⟨wr.heap.size, 0, none⟩ 1 1 [.int .u8 0] rfl rfl (news_byte wr _ _) (by intro u hu; simp at hu; subst hu; rfl) (by unfold maxLen; omega) (by omega) (by simp; omega) ?_; intro v' w1 hown' hgrow _; have O1 := hide hown'; have G1 := hide hgrow; clear hown' hgrow)
      go_roundw
      case rel =>
        refine ⟨k + 1, by omega, by go_num, ?_⟩
        rw [List.replicate_succ']
        exact Bytes.snoc hlen (unhide HO) (unhide HB) (unhide O1) (unhide G1)
      case measure => simp [intOf]; omega
    · have hkz : k = size := by omega
      subst hkz
      have hcv := bytes_back hlen hown
      have HB := hide hb
      clear hown hb
      go_wp2
      go_ret
      exact ⟨rfl, unhide HB⟩
end Go.Proofs.YtcmoffiigpchiaaGreat

namespace Go.Proofs.YtcmoffiigpchiaaGreat
open Go.RowKit

set_option maxRecDepth 100000 in
set_option maxHeartbeats 1000000 in
theorem head_code (kind number n : Int) (h0 : 0 ≤ kind) (h1 : 0 ≤ number) (h2 : 0 ≤ n) (w : World) :
    Calls Tryz.prog 119 #[.int .i64 kind, .int .i64 number, .int .i64 n] w fun e w' => e = .returned (.string (Frame.lowB kind.toNat 1 ++ Frame.lowB number.toNat 2 ++ Frame.lowB n.toNat 4)) ∧ Below w.heap.size w w' := by
  have D1 := hide (low_1 kind h0)
  have D2 := hide (low_2 number h1)
  have D3 := hide (low_4 n h2)
  have z1 := Frame.lowB_size kind.toNat 1
  have z2 := Frame.lowB_size number.toNat 2
  have z3 := Frame.lowB_size n.toNat 4
  generalize Frame.lowB kind.toNat 1 = b1 at *
  generalize Frame.lowB number.toNat 2 = b2 at *
  generalize Frame.lowB n.toNat 4 = b3 at *
  go_enter Tryz.func119, Tryz.ntmps119
  go_wp2_with fail
  refine (unhide D1 _).mono ?_
  rintro e w1 ⟨rfl, hb⟩
  have L1 := hide hb
  clear hb
  go_wp2_with fail
  refine (unhide D2 _).mono ?_
  rintro e w2 ⟨rfl, hb⟩
  have L2 := hide hb
  clear hb
  go_wp2_with fail
  refine (unhide D3 _).mono ?_
  rintro e w3 ⟨rfl, hb⟩
  have L3 := hide hb
  clear hb
  go_wp2_with fail
  go_ret
  exact ⟨rfl, bel_then (bel_then (unhide L1) (unhide L2)) (unhide L3)⟩

set_option maxRecDepth 100000 in
set_option maxHeartbeats 1000000 in
theorem flags_code (s : StV) (w : World) :
    Calls Tryz.prog 122 #[s.val] w fun e w' => e = .returned (.int .i64 ((Frame.bitN s.pending + 2 * Frame.bitN s.halted : Nat) : Int)) ∧ Below w.heap.size w w' := by
  obtain ⟨n, pc, regs, cells, clock, handler, back, pending, halted⟩ := s
  cases pending <;> cases halted
  all_goals
    go_enter Tryz.func122, Tryz.ntmps122
    go_wp2
    go_ret
    exact ⟨rfl, (Below.refl _ _).alloc (Nat.le_refl _) _⟩

set_option maxRecDepth 100000 in
set_option maxHeartbeats 1000000 in
theorem whole_code (body : ByteArray) (hb : body.size ≤ 36) (w : World) :
    Calls Tryz.prog 121 #[.string body] w fun e w' => e = .returned (.string (Frame.sealed (body ++ Frame.zeroB (36 - body.size)))) ∧ Below w.heap.size w w' := by
  have D1 := hide (low_i 0 (36 - (body.size : Int)) (by omega) (by omega) (by omega))
  have e1 : (36 - (body.size : Int)).toNat = 36 - body.size := by omega
  have hz : (Frame.zeroB (36 - body.size)).size = 36 - body.size := Frame.zeroB_size _
  rw [e1, show (0 : Int).toNat = 0 from rfl, Frame.lowB_nought] at D1
  have HS : Hid (Frame.sealed (body ++ Frame.zeroB (36 - body.size)) = (body ++ Frame.zeroB (36 - body.size)) ++ Frame.lowB (Crc.sum (body ++ Frame.zeroB (36 - body.size)).data.toList) 4) := rfl
  generalize Frame.zeroB (36 - body.size) = z at *
  have D2 := hide (fun w => sum_code (body ++ z) w (by rw [ByteArray.size_append]; unfold maxLen; omega))
  generalize Crc.sum (body ++ z).data.toList = c at *
  have D3 := hide (low_4 (c : Int) (by omega))
  rw [Int.toNat_natCast] at D3
  have z3 := Frame.lowB_size c 4
  generalize Frame.lowB c 4 = b4 at *
  have hz2 : ¬ 9223372036854775807 < body.size + z.size := by omega
  have hz3 : ¬ 9223372036854775807 < body.size + z.size + 4 := by omega
  have hz4 : ¬ 9223372036854775807 < body.size + (36 - body.size) := by omega
  have hz5 : ¬ 9223372036854775807 < body.size + (36 - body.size) + 4 := by omega
  go_enter Tryz.func121, Tryz.ntmps121
  go_wp2_with fail
  refine (unhide D1 _).mono ?_
  rintro e w1 ⟨rfl, hb⟩
  have L1 := hide hb
  clear hb
  go_wp2_with fail
  refine (unhide D2 _).mono ?_
  rintro e w2 ⟨rfl, rfl⟩
  go_wp2_with fail
  refine (unhide D3 _).mono ?_
  rintro e w3 ⟨rfl, hb⟩
  have L3 := hide hb
  clear hb
  go_wp2_with fail
  go_ret
  exact ⟨by rw [HS.out]; rfl, bel_then (unhide L1) (unhide L3)⟩
end Go.Proofs.YtcmoffiigpchiaaGreat

namespace Go.Proofs.YtcmoffiigpchiaaGreat
open Go.RowKit

set_option maxRecDepth 100000 in
set_option maxHeartbeats 2000000 in
theorem ofState_code (k : Nat) (s : StV) (hs : Mach.Legal s) (w : World) :
    Calls Tryz.prog 96 #[.int .i64 ((k % 65536 : Nat) : Int), s.val] w fun e w' => e = .returned (.string (Frame.ofState k s)) ∧ Below w.heap.size w w' := by
  have DF := hide (flags_code s)
  obtain ⟨n, pc, regs, cells, clock, handler, back, pending, halted⟩ := s
  obtain ⟨n0, n1, pc0, pc1, hregs, hcells, hc0, hc1, hh0, hh1, hb0, hb1⟩ := hs
  simp only at n0 n1 pc0 pc1 hregs hcells hc0 hc1 hh0 hh1 hb0 hb1 DF
  have D1 := hide (head_code 67 ((k % 65536 : Nat) : Int) n (by omega) (by omega) n0)
  have D2 := hide (low_1 pc pc0)
  have D3 := hide (low_2 clock hc0)
  have D4 := hide (low_1 (handler + 1) (by omega))
  have D5 := hide (low_1 (back + 1) (by omega))
  have D6 := hide (low_1 ((Frame.bitN pending + 2 * Frame.bitN halted : Nat) : Int) (by omega))
  rw [Int.toNat_natCast] at D1 D6
  rw [show (67 : Int).toNat = 67 from rfl, Frame.lowB_c] at D1
  have z1 : ((⟨#[67]⟩ : ByteArray) ++ Frame.lowB (k % 65536) 2 ++ Frame.lowB n.toNat 4).size = 7 := by simp only [ByteArray.size_append, Frame.lowB_size]; rfl
  have z2 := Frame.lowB_size pc.toNat 1
  have z3 := Frame.lowB_size clock.toNat 2
  have z4 := Frame.lowB_size (handler + 1).toNat 1
  have z5 := Frame.lowB_size (back + 1).toNat 1
  have z6 := Frame.lowB_size (Frame.bitN pending + 2 * Frame.bitN halted) 1
  have HF : Hid (Frame.ofState k ⟨n, pc, regs, cells, clock, handler, back, pending, halted⟩ = Frame.sealed (((((((⟨#[67]⟩ ++ Frame.lowB (k % 65536) 2 ++ Frame.lowB n.toNat 4) ++ Frame.lowB pc.toNat 1) ++ regs ++ cells) ++ Frame.lowB clock.toNat 2) ++ Frame.lowB (handler + 1).toNat 1) ++ Frame.lowB (back + 1).toNat 1) ++ Frame.lowB (Frame.bitN pending + 2 * Frame.bitN halted) 1 ++ Frame.zeroB 3)) := rfl
  generalize (⟨#[67]⟩ : ByteArray) ++ Frame.lowB (k % 65536) 2 ++ Frame.lowB n.toNat 4 = b1 at *
  generalize Frame.lowB pc.toNat 1 = b2 at *
  generalize Frame.lowB clock.toNat 2 = b3 at *
  generalize Frame.lowB (handler + 1).toNat 1 = b4 at *
  generalize Frame.lowB (back + 1).toNat 1 = b5 at *
  generalize Frame.lowB (Frame.bitN pending + 2 * Frame.bitN halted) 1 = b6 at *
  generalize Frame.bitN pending + 2 * Frame.bitN halted = fl at *
  generalize k % 65536 = km at *
  have zz : (((((((b1 ++ b2) ++ regs) ++ cells) ++ b3) ++ b4) ++ b5) ++ b6).size = 33 := by simp only [ByteArray.size_append, z1, z2, z3, z4, z5, z6, hregs, hcells]
  have DW := hide (whole_code (((((((b1 ++ b2) ++ regs) ++ cells) ++ b3) ++ b4) ++ b5) ++ b6) (by omega))
  rw [zz] at DW
  clear zz
  have X0 := hide (Box.new w #[.int .i64 n, .int .i64 pc, .string regs, .string cells, .int .i64 clock, .int .i64 handler, .int .i64 back, .bool pending, .bool halted] 30)
  go_enter Tryz.func96, Tryz.ntmps96
  go_wp2_with fail
  refine (unhide D1 _).mono ?_
  rintro e w1 ⟨rfl, hb⟩
  have L1 := hide (bel_alloc hb)
  have X1 := hide ((unhide X0).next hb)
  clear hb
  obtain ⟨c1, f1, g1⟩ := unhide X1
  go_wp2_with fail
  refine (unhide D2 _).mono ?_
  rintro e w2 ⟨rfl, hb⟩
  have L2 := hide (bel_then (unhide L1) hb)
  have X2 := hide ((unhide X1).next hb)
  clear hb c1 f1 g1
  obtain ⟨c2, f2, g2⟩ := unhide X2
  go_wp2_with fail
  refine (unhide D3 _).mono ?_
  rintro e w3 ⟨rfl, hb⟩
  have L3 := hide (bel_then (unhide L2) hb)
  have X3 := hide ((unhide X2).next hb)
  clear hb c2 f2 g2
  obtain ⟨c3, f3, g3⟩ := unhide X3
  go_wp2_with fail
  refine (unhide D4 _).mono ?_
  rintro e w4 ⟨rfl, hb⟩
  have L4 := hide (bel_then (unhide L3) hb)
  have X4 := hide ((unhide X3).next hb)
  clear hb c3 f3 g3
  obtain ⟨c4, f4, g4⟩ := unhide X4
  go_wp2_with fail
  refine (unhide D5 _).mono ?_
  rintro e w5 ⟨rfl, hb⟩
  have L5 := hide (bel_then (unhide L4) hb)
  have X5 := hide ((unhide X4).next hb)
  clear hb c4 f4 g4
  obtain ⟨c5, f5, g5⟩ := unhide X5
  go_wp2_with fail
  refine (unhide DF _).mono ?_
  rintro e w6 ⟨rfl, hb⟩
  have L6 := hide (bel_then (unhide L5) hb)
  clear hb c5 f5 g5
  go_wp2_with fail
  refine (unhide D6 _).mono ?_
  rintro e w7 ⟨rfl, hb⟩
  have L7 := hide (bel_then (unhide L6) hb)
  clear hb
  go_wp2_with fail
  refine (unhide DW _).mono ?_
  rintro e w8 ⟨rfl, hb⟩
  have L8 := hide (bel_then (unhide L7) hb)
  clear hb
  go_wp2_with fail
  go_ret
  exact ⟨by rw [HF.out]; rfl, unhide L8⟩

set_option maxRecDepth 100000 in
set_option maxHeartbeats 2000000 in
theorem ofChoice_code (k : Nat) (n : Int) (n0 : 0 ≤ n) (c : ChV) (hc : Mach.Chosen c) (w : World) :
    Calls Tryz.prog 94 #[.int .i64 ((k % 65536 : Nat) : Int), .int .i64 n, c.val] w fun e w' => e = .returned (.string (Frame.ofChoice k n.toNat c)) ∧ Below w.heap.size w w' := by
  obtain ⟨input, ticks, interrupt⟩ := c
  obtain ⟨i0, i1, t0, t1⟩ := hc
  simp only at i0 i1 t0 t1
  have D1 := hide (head_code 69 ((k % 65536 : Nat) : Int) n (by omega) (by omega) n0)
  have D2 := hide (low_1 input i0)
  have D3 := hide (low_1 ticks t0)
  have D4 := hide (low_1 1 (by omega))
  rw [Int.toNat_natCast] at D1
  rw [show (69 : Int).toNat = 69 from rfl, Frame.lowB_e] at D1
  rw [show (1 : Int).toNat = 1 from rfl] at D4
  have z1 : ((⟨#[69]⟩ : ByteArray) ++ Frame.lowB (k % 65536) 2 ++ Frame.lowB n.toNat 4).size = 7 := by simp only [ByteArray.size_append, Frame.lowB_size]; rfl
  have z2 := Frame.lowB_size input.toNat 1
  have z3 := Frame.lowB_size ticks.toNat 1
  have z4 := Frame.lowB_size 1 1
  have HF : Hid (∀ b, Frame.ofChoice k n.toNat ⟨input, ticks, b⟩ = Frame.sealed ((((⟨#[69]⟩ ++ Frame.lowB (k % 65536) 2 ++ Frame.lowB n.toNat 4) ++ Frame.lowB input.toNat 1) ++ Frame.lowB ticks.toNat 1) ++ (if b then Frame.lowB 1 1 ++ Frame.zeroB 26 else Frame.zeroB 27))) := hide (by
    intro b
    have assoc : ∀ x y z : ByteArray, x ++ y ++ z = x ++ (y ++ z) := fun _ _ _ => ByteArray.append_assoc
    unfold Frame.ofChoice Frame.bodyE
    cases b
    · rw [assoc _ (Frame.lowB (Frame.bitN false) 1) _]
      have : Frame.lowB (Frame.bitN false) 1 ++ Frame.zeroB 26 = Frame.zeroB 27 := by
        rw [show Frame.bitN false = 0 from rfl, Frame.lowB_nought, Frame.zeroB_add]
      simp only [this]
      rfl
    · rw [assoc _ (Frame.lowB (Frame.bitN true) 1) _]
      rfl)
  generalize (⟨#[69]⟩ : ByteArray) ++ Frame.lowB (k % 65536) 2 ++ Frame.lowB n.toNat 4 = b1 at *
  generalize Frame.lowB input.toNat 1 = b2 at *
  generalize Frame.lowB ticks.toNat 1 = b3 at *
  generalize Frame.lowB 1 1 = b4 at *
  generalize k % 65536 = km at *
  have y1 : ((b1 ++ b2) ++ b3).size = 9 := by simp only [ByteArray.size_append, z1, z2, z3]
  have y2 : (((b1 ++ b2) ++ b3) ++ b4).size = 10 := by simp only [ByteArray.size_append, z1, z2, z3, z4]
  have W1 := hide (whole_code ((b1 ++ b2) ++ b3) (by omega))
  have W2 := hide (whole_code (((b1 ++ b2) ++ b3) ++ b4) (by omega))
  rw [y1] at W1
  rw [y2] at W2
  clear y1 y2
  have X0 := hide (Box.new w #[.int .i64 input, .int .i64 ticks, .bool interrupt] 32)
  go_enter Tryz.func94, Tryz.ntmps94
  go_wp2_with fail
  refine (unhide D1 _).mono ?_
  rintro e w1 ⟨rfl, hb⟩
  have L1 := hide (bel_alloc hb)
  have X1 := hide ((unhide X0).next hb)
  clear hb
  obtain ⟨c1, f1, g1⟩ := unhide X1
  go_wp2_with fail
  refine (unhide D2 _).mono ?_
  rintro e w2 ⟨rfl, hb⟩
  have L2 := hide (bel_then (unhide L1) hb)
  have X2 := hide ((unhide X1).next hb)
  clear hb c1 f1 g1
  obtain ⟨c2, f2, g2⟩ := unhide X2
  go_wp2_with fail
  refine (unhide D3 _).mono ?_
  rintro e w3 ⟨rfl, hb⟩
  have L3 := hide (bel_then (unhide L2) hb)
  have X3 := hide ((unhide X2).next hb)
  clear hb c2 f2 g2
  obtain ⟨c3, f3, g3⟩ := unhide X3
  cases interrupt with
  | false =>
    go_wp2_with fail
    refine (unhide W1 _).mono ?_
    rintro e w4 ⟨rfl, hb⟩
    have L4 := hide (bel_then (unhide L3) hb)
    clear hb
    go_wp2_with fail
    go_ret
    exact ⟨by rw [unhide HF]; rfl, unhide L4⟩
  | true =>
    go_wp2_with fail
    refine (unhide D4 _).mono ?_
    rintro e w4 ⟨rfl, hb⟩
    have L4 := hide (bel_then (unhide L3) hb)
    clear hb
    go_wp2_with fail
    refine (unhide W2 _).mono ?_
    rintro e w5 ⟨rfl, hb⟩
    have L5 := hide (bel_then (unhide L4) hb)
    clear hb
    go_wp2_with fail
    go_ret
    exact ⟨by rw [unhide HF, if_pos rfl, ← ByteArray.append_assoc]; rfl, unhide L5⟩
end Go.Proofs.YtcmoffiigpchiaaGreat

namespace Go.Proofs.YtcmoffiigpchiaaGreat
open Go.RowKit

/-- What the code keeps written down of a machine. -/
abbrev rcv (kept : ByteArray) (last room : Int) (number : Nat) : Value := .agg #[.string kept, .int .i64 last, .int .i64 room, .int .i64 (number : Int)]
abbrev RM.rcd (m : RM) : Value := rcv (RM.traceOf m) m.last m.room (m.all.length % 65536)

namespace RM
theorem kept_size {m : RM} (hm : m.Ok) : (traceOf m).size ≤ 2560 := by
  have := traceOf_size hm
  have := hm.kept
  omega
theorem byt_trace {m : RM} (hm : m.Ok) (d : Nat) (hd : d < m.all.length - m.from_) : nthC m.all (m.from_ + d) = decide (Code.byt (traceOf m) (40 * d) = 67) := by
  unfold traceOf
  rw [byt_joined _ (fun f hf => hm.frames f (List.mem_of_mem_drop hf)) d (by rw [List.length_drop]; omega)]
  have : (m.all.drop m.from_).getD d ⟨#[]⟩ = m.all.getD (m.from_ + d) ⟨#[]⟩ := by simp [List.getD, List.getElem?_drop]
  rw [this]
  rfl
theorem place_last (m : RM) : (place m).1.last = m.last := by
  unfold place
  split
  · rfl
  · split <;> rfl
theorem traceOf_put {m : RM} (hm : m.Ok) (f : ByteArray) : traceOf (put m f) = traceOf m ++ f := by
  unfold traceOf put
  simp only
  rw [List.drop_append_of_le_length hm.from1, joined_snoc]
end RM

set_option maxRecDepth 100000 in
set_option maxHeartbeats 1000000 in
theorem secondState_code (m : RM) (hm : m.Ok) (h1 : m.from_ < m.all.length) (h2 : RM.nthC m.all m.from_ = true) (w : World) :
    Calls Tryz.prog 118 #[.string (RM.traceOf m)] w fun e w' => e = .returned (.int .i64 ((40 * RM.second m : Nat) : Int)) ∧ w' = w := by
  have hz := RM.traceOf_size hm
  have hk := RM.kept_size hm
  have HB := hide (RM.byt_trace hm)
  have HS : Hid (∀ d, 1 ≤ d → d < m.all.length - m.from_ → RM.nthC m.all (m.from_ + d) = true → (∀ j, 1 ≤ j → j < d → RM.nthC m.all (m.from_ + j) = false) → RM.second m = d) := hide (by
    intro d d1 d2 d3 d4
    have := RM.firstC_here (all := m.all) (i := m.from_ + 1) (j := m.from_ + d) (by omega) (by omega) d3 (fun k k1 k2 => by
      have := d4 (k - m.from_) (by omega) (by omega)
      rwa [show m.from_ + (k - m.from_) = k by omega] at this)
    unfold RM.second
    rw [this]
    simp)
  have HN : Hid ((∀ j, 1 ≤ j → j < m.all.length - m.from_ → RM.nthC m.all (m.from_ + j) = false) → RM.second m = m.all.length - m.from_) := hide (by
    intro d4
    have := RM.firstC_none (all := m.all) (i := m.from_ + 1) (fun k k1 k2 => by
      have := d4 (k - m.from_) (by omega) (by omega)
      rwa [show m.from_ + (k - m.from_) = k by omega] at this)
    unfold RM.second
    rw [this]
    simp)
  have H2 : Hid (RM.nthC m.all (m.from_ + 0) = true) := h2
  generalize RM.traceOf m = t at *
  generalize RM.second m = sc at *
  have hL : 0 < m.all.length - m.from_ := by omega
  generalize m.all.length - m.from_ = L at *
  generalize m.all = all at *
  generalize m.from_ = fr at *
  have HZ := hide hz
  clear h1 h2 hm hz
  go_enter Tryz.func118, Tryz.ntmps118
  go_wp2
  go_loop [3, 4] (fun st at_ => ∃ a d : Nat, a = 40 * d ∧ d ≤ L ∧ at_ = .int .i64 a ∧ st = .int .i64 (if d = 0 then 0 else 1 : Int) ∧ ∀ j, 1 ≤ j → j < d → RM.nthC all (fr + j) = false) (fun _ at_ => t.size - (intOf at_).toNat)
  case atStart => exact ⟨0, 0, rfl, Nat.zero_le _, rfl, rfl, fun j h1 h2 => absurd h2 (by omega)⟩
  case round =>
    obtain ⟨a, d, ha, hd, rfl, rfl, hno⟩ := hrel
    have HNo := hide hno
    have HA := hide ha
    have hab : a ≤ t.size := by rw [unhide HZ]; omega
    clear hno
    by_cases hlt : d < L
    · have hat : a < t.size := by rw [unhide HZ]; omega
      have ha40 : a + 40 ≤ t.size := by rw [unhide HZ]; omega
      have b0 := Code.byt_eq t a hat
      have hbn := unhide HB d hlt
      rw [← ha] at hbn
      have HBN := hide hbn
      clear hbn ha
      by_cases h0 : d = 0
      · subst h0
        have hc : Code.byt t a = 67 := by
          have := unhide H2
          rw [unhide HBN] at this
          simpa using this
        have dq : ((Code.byt t a : Int) == 67) = true := by simp [hc]
        rw [if_pos rfl]
        clear hc
        go_wp2
        go_round
        case rel => exact ⟨a + 40, 1, by have := unhide HA; omega, by omega, by go_num, rfl, fun j h1 h2 => absurd h2 (by omega)⟩
        case measure => simp [intOf]; omega
      · rw [if_neg h0]
        by_cases hc : Code.byt t a = 67
        · have dq : ((Code.byt t a : Int) == 67) = true := by simp [hc]
          have HC := hide hc
          clear hc
          go_wp2
          go_ret
          refine ⟨?_, rfl⟩
          have e : 40 * sc = a := by
            rw [unhide HS d (by omega) hlt (by rw [unhide HBN]; simpa using unhide HC) (unhide HNo)]
            exact (unhide HA).symm
          exact (ret_int (by omega) : Ending.returned (.int .i64 (a : Int)) = .returned (.int .i64 (40 * (sc : Int))))
        · have dq : ((Code.byt t a : Int) == 67) = false := by simp; omega
          have HC := hide hc
          clear hc
          go_wp2
          go_round
          case rel => exact ⟨a + 40, d + 1, by have := unhide HA; omega, by omega, by go_num, by rw [if_neg (by omega)], fun j h1 h2 => by
                        rcases Nat.lt_succ_iff_lt_or_eq.1 h2 with h | h
                        · exact unhide HNo j h1 h
                        · rw [h, unhide HBN]; simpa using unhide HC⟩
          case measure => simp [intOf]; omega
    · have hdl : d = L := by omega
      have hae : ¬ a < t.size := by rw [unhide HZ]; omega
      have HE : Hid (40 * sc = t.size) := hide (by rw [unhide HN (fun j h1 h2 => unhide HNo j h1 (by omega)), unhide HZ])
      clear ha hdl
      have hd0 : ¬ d = 0 := by omega
      rw [if_neg hd0]
      go_wp2
      go_ret
      refine ⟨?_, rfl⟩
      have e := unhide HE
      exact (ret_int (by omega) : Ending.returned (.int .i64 (t.size : Int)) = .returned (.int .i64 (40 * (sc : Int))))

set_option maxRecDepth 100000 in
set_option maxHeartbeats 1000000 in
theorem withRoom_code (m : RM) (hm : m.Ok) (hh : m.from_ < m.all.length → RM.nthC m.all m.from_ = true) (w : World) :
    Calls Tryz.prog 93 #[m.rcd] w fun e w' => e = .returned (RM.place m).1.rcd ∧ Below w.heap.size w w' := by
  have hk := RM.kept_size hm
  have ht := RM.place_trace hm
  have hl := RM.place_last m
  have hr := RM.place_room' m
  have ha := RM.place_all m
  have hz := RM.traceOf_size hm
  have r0 := hm.room0
  have r1 := hm.room1
  by_cases h : m.room * 40 ≤ ((RM.traceOf m).size : Int)
  · rw [if_pos h] at ht
    have hfl : m.from_ < m.all.length := by omega
    have HS := hide (secondState_code m hm hfl (hh hfl))
    have hsc : 40 * RM.second m ≤ (RM.traceOf m).size := by
      rw [hz]
      unfold RM.second
      have : (RM.firstC m.all (m.from_ + 1)).getD m.all.length ≤ m.all.length := by
        cases hc : RM.firstC m.all (m.from_ + 1) with
        | none => exact Nat.le_refl _
        | some j => exact Nat.le_of_lt (RM.firstC_some hc).2.1
      omega
    have HR : Hid ((RM.place m).1.rcd = rcv ((RM.traceOf m).extract (40 * RM.second m) (RM.traceOf m).size) m.last m.room (m.all.length % 65536)) := hide (by unfold RM.rcd; rw [ht, hl, hr, ha])
    clear ht hl hr ha hz hfl hm hh
    unfold RM.rcd at *
    generalize 40 * RM.second m = sc at *
    generalize RM.traceOf m = t at *
    generalize m.all.length % 65536 = nb at *
    generalize m.room = room at *
    generalize m.last = last at *
    go_enter Tryz.func93, Tryz.ntmps93
    go_wp2_with (go_at_call 118; refine (unhide HS _).mono ?_; rintro e w1 ⟨rfl, rfl⟩)
    refine bodyPost_ret (v := rcv (t.extract sc t.size) last room nb) (by simp [results, Tryz.results93, go_sem]) rfl ⟨by rw [unhide HR], ?_⟩
    repeat (refine Below.setCell ?_ (by simp <;> omega) _)
    exact bel2
  · rw [if_neg h] at ht
    have HR : Hid ((RM.place m).1.rcd = m.rcd) := hide (by unfold RM.rcd; rw [ht, hl, hr, ha])
    clear ht hl hr ha hz hm hh
    unfold RM.rcd at *
    generalize RM.traceOf m = t at *
    generalize m.all.length % 65536 = nb at *
    generalize m.room = room at *
    generalize m.last = last at *
    go_enter Tryz.func93, Tryz.ntmps93
    go_wp2
    refine bodyPost_ret (v := rcv t last room nb) (by simp [results, Tryz.results93, go_sem]) rfl ⟨by rw [unhide HR], ?_⟩
    repeat (refine Below.setCell ?_ (by simp <;> omega) _)
    exact bel2

set_option maxRecDepth 100000 in
set_option maxHeartbeats 1000000 in
theorem with_code (m : RM) (hm : m.Ok) (f : ByteArray) (hf : f.size = 40) (w : World) :
    Calls Tryz.prog 95 #[m.rcd, .string f] w fun e w' => e = .returned (RM.put m f).rcd ∧ Below w.heap.size w w' := by
  have hk := RM.kept_size hm
  have HR : Hid ((RM.put m f).rcd = rcv (RM.traceOf m ++ f) m.last m.room ((m.all.length % 65536 + 1) % 65536)) := hide (by
    unfold RM.rcd
    rw [RM.traceOf_put hm]
    have : (RM.put m f).all.length % 65536 = (m.all.length % 65536 + 1) % 65536 := by simp [RM.put]
    rw [this]
    rfl)
  have hnb : m.all.length % 65536 < 65536 := Nat.mod_lt _ (by decide)
  clear hm
  unfold RM.rcd at *
  generalize RM.traceOf m = t at *
  generalize m.all.length % 65536 = nb at *
  generalize m.room = room at *
  generalize m.last = last at *
  have hz2 : ¬ 9223372036854775807 < t.size + f.size := by omega
  have hz3 : ¬ 9223372036854775807 < t.size + 40 := by omega
  have hm2 : ((nb : Int) + 1) % 65536 = (((nb + 1) % 65536 : Nat) : Int) := by omega
  generalize (nb + 1) % 65536 = nb' at *
  go_enter Tryz.func95, Tryz.ntmps95
  go_wp2
  refine bodyPost_ret (v := rcv (t ++ f) last room nb') (by simp [results, Tryz.results95, go_sem]) rfl ⟨by rw [unhide HR], ?_⟩
  repeat (refine Below.setCell ?_ (by simp <;> omega) _)
  exact bel2
end Go.Proofs.YtcmoffiigpchiaaGreat

namespace Go.Proofs.YtcmoffiigpchiaaGreat
open Go.RowKit

theorem four (a0 a1 a2 a3 v0 v1 v2 v3 : Value) : (((#[a0, a1, a2, a3].setIfInBounds 0 v0).setIfInBounds 1 v1).setIfInBounds 2 v2).setIfInBounds 3 v3 = #[v0, v1, v2, v3] := by simp
theorem Box.put4 {w : World} {b : Nat} {a0 a1 a2 a3 : Value} (h : Box w b #[a0, a1, a2, a3]) (v0 v1 v2 v3 : Value) :
    Box ((((w.setCell ⟨b, 0, none⟩ v0).setCell ⟨b, 1, none⟩ v1).setCell ⟨b, 2, none⟩ v2).setCell ⟨b, 3, none⟩ v3) b #[v0, v1, v2, v3] := by
  rw [← four a0 a1 a2 a3 v0 v1 v2 v3]
  exact (((h.set 0 v0 (by simp)).set 1 v1 (by simp)).set 2 v2 (by simp)).set 3 v3 (by simp)
theorem Box.off {w : World} {b : Nat} {ca : Array Value} (h : Box w b ca) {a : Addr} (ha : b ≠ a.block) (v : Value) : Box (w.setCell a v) b ca :=
  h.keeps ((Keeps.refl w [a.block]).setCell (by simp) v) (by simpa using ha)
theorem Box.off4 {w : World} {b x : Nat} {ca : Array Value} (h : Box w b ca) (hx : b ≠ x) (v0 v1 v2 v3 : Value) :
    Box ((((w.setCell ⟨x, 0, none⟩ v0).setCell ⟨x, 1, none⟩ v1).setCell ⟨x, 2, none⟩ v2).setCell ⟨x, 3, none⟩ v3) b ca :=
  (((h.off hx v0).off hx v1).off hx v2).off hx v3
theorem bel_put4 {w w1 : World} {k x : Nat} (h : Below k w w1) (hx : k ≤ x) (v0 v1 v2 v3 : Value) :
    Below k w ((((w1.setCell ⟨x, 0, none⟩ v0).setCell ⟨x, 1, none⟩ v1).setCell ⟨x, 2, none⟩ v2).setCell ⟨x, 3, none⟩ v3) := by
  repeat (refine Below.setCell ?_ (by simpa using hx) _)
  exact h

theorem three_boxes {w w1 : World} {ca cb cc : Array Value} {ta tb tc : TypeId} (hb : Below (((w.alloc (.cells ca ta)).alloc (.cells cb tb)).alloc (.cells cc tc)).heap.size (((w.alloc (.cells ca ta)).alloc (.cells cb tb)).alloc (.cells cc tc)) w1) :
    Box w1 w.heap.size ca ∧ Box w1 (w.heap.size + 1) cb ∧ Box w1 (w.heap.size + 2) cc ∧ Below w.heap.size w w1 := by
  obtain ⟨c0, c1, c2, f0, f1, f2, hs, hl⟩ := boxes3 hb
  exact ⟨⟨c0, f0, by omega⟩, ⟨c1, f1, by omega⟩, ⟨c2, f2, by omega⟩, hl⟩
theorem four_boxes {w w1 : World} {ca cb cc cd : Array Value} {ta tb tc td : TypeId} (hb : Below ((((w.alloc (.cells ca ta)).alloc (.cells cb tb)).alloc (.cells cc tc)).alloc (.cells cd td)).heap.size ((((w.alloc (.cells ca ta)).alloc (.cells cb tb)).alloc (.cells cc tc)).alloc (.cells cd td)) w1) :
    Box w1 w.heap.size ca ∧ Box w1 (w.heap.size + 1) cb ∧ Box w1 (w.heap.size + 2) cc ∧ Box w1 (w.heap.size + 3) cd ∧ Below w.heap.size w w1 := by
  obtain ⟨a1, a2, a3, a4⟩ := three_boxes (bel_alloc hb)
  have a5 := (Box.new (((w.alloc (.cells ca ta)).alloc (.cells cb tb)).alloc (.cells cc tc)) cd td).next hb
  have e : (((w.alloc (.cells ca ta)).alloc (.cells cb tb)).alloc (.cells cc tc)).heap.size = w.heap.size + 3 := by simp
  rw [e] at a5
  exact ⟨a1, a2, a3, a5, a4⟩

set_option maxRecDepth 100000 in
set_option maxHeartbeats 400000 in
theorem withState_code (m : RM) (hm : m.Ok) (hh : m.from_ < m.all.length → RM.nthC m.all m.from_ = true) (w : World) :
    Calls Tryz.prog 69 #[m.rcd, m.s.val] w fun e w' => e = .returned (RM.save m).rcd ∧ Below w.heap.size w w' := by
  have HR := hide (withRoom_code m hm hh)
  have HO := hide (ofState_code (RM.place m).1.all.length m.s hm.legal)
  have HW := hide (with_code (RM.place m).1 (RM.place_ok hm) (Frame.ofState (RM.place m).1.all.length m.s) (Frame.ofState_size hm.legal))
  have HS : Hid ((RM.save m).rcd = rcv (RM.traceOf (RM.put (RM.place m).1 (Frame.ofState (RM.place m).1.all.length m.s))) m.s.n (RM.put (RM.place m).1 (Frame.ofState (RM.place m).1.all.length m.s)).room ((RM.put (RM.place m).1 (Frame.ofState (RM.place m).1.all.length m.s)).all.length % 65536)) := hide rfl
  unfold RM.rcd at *
  generalize Frame.ofState (RM.place m).1.all.length m.s = fr at *
  generalize RM.traceOf (RM.put (RM.place m).1 fr) = t3 at *
  generalize (RM.put (RM.place m).1 fr).room = r3 at *
  generalize (RM.put (RM.place m).1 fr).last = l3 at *
  generalize (RM.put (RM.place m).1 fr).all.length % 65536 = n3 at *
  generalize RM.traceOf (RM.place m).1 = t2 at *
  generalize (RM.place m).1.room = r2 at *
  generalize (RM.place m).1.last = l2 at *
  generalize (RM.place m).1.all.length % 65536 = n2 at *
  generalize RM.traceOf m = t1 at *
  generalize m.room = r1 at *
  generalize m.last = l1 at *
  generalize m.all.length % 65536 = n1 at *
  generalize m.s = s at *
  clear hm hh
  obtain ⟨n, pc, regs, cells, clock, handler, back, pending, halted⟩ := s
  go_enter Tryz.func69, Tryz.ntmps69
  go_wp2_with fail
  refine (unhide HR _).mono ?_
  rintro e w1 ⟨rfl, hb⟩
  obtain ⟨x1, y1, z1, l1⟩ := three_boxes hb
  have X1 := hide x1
  have Y1 := hide y1
  have Z1 := hide z1
  have B1 := hide l1
  clear hb x1 y1 z1 l1
  obtain ⟨cx, fx, gx⟩ := unhide X1
  obtain ⟨cy, fy, gy⟩ := unhide Y1
  obtain ⟨cz, fz, gz⟩ := unhide Z1
  go_wp2_with fail
  refine (unhide HO _).mono ?_
  rintro e w2 ⟨rfl, hb⟩
  have X2 := hide (((unhide X1).put4 _ _ _ _).next hb)
  have Y2 := hide (((unhide Y1).off4 (by omega) _ _ _ _).next hb)
  have Z2 := hide (((unhide Z1).off4 (by omega) _ _ _ _).next hb)
  have B2 := hide ((bel_put4 (unhide B1) (Nat.le_refl _) _ _ _ _).trans (hb.mono (by have := (unhide B1).size; simp; omega)))
  clear hb cx fx gx cy fy gy cz fz gz
  obtain ⟨cx, fx, gx⟩ := unhide X2
  obtain ⟨cy, fy, gy⟩ := unhide Y2
  obtain ⟨cz, fz, gz⟩ := unhide Z2
  go_upto_region 3 with fail
  go_cut [] (fun wx => Box wx w.heap.size #[.string t3, .int .i64 l3, .int .i64 r3, .int .i64 n3] ∧ Box wx (w.heap.size + 1) #[.int .i64 n, .int .i64 pc, .string regs, .string cells, .int .i64 clock, .int .i64 handler, .int .i64 back, .bool pending, .bool halted] ∧ Box wx (w.heap.size + 2) #[.string ⟨#[]⟩, .int .i64 0, .int .i64 0, .int .i64 0] ∧ Below w.heap.size w wx)
  case first =>
    go_wp2_with fail
    refine (unhide HW _).mono ?_
    rintro e w3 ⟨rfl, hb⟩
    have X3 := hide ((unhide X2).next hb)
    have Y3 := hide ((unhide Y2).next hb)
    have Z3 := hide ((unhide Z2).next hb)
    have B3 := hide ((unhide B2).trans (hb.mono (unhide B2).size))
    clear hb cx fx gx cy fy gy cz fz gz
    obtain ⟨cx, fx, gx⟩ := unhide X3
    clear gx
    go_wp2_with fail
    go_meet
    case rel => exact ⟨(unhide X3).put4 _ _ _ _, (unhide Y3).off4 (by omega) _ _ _ _, (unhide Z3).off4 (by omega) _ _ _ _, bel_put4 (unhide B3) (Nat.le_refl _) _ _ _ _⟩
  case rest =>
    obtain ⟨x3, y3, z3, b3⟩ := hcut
    have B3 := hide b3
    clear cx fx gx cy fy gy cz fz gz b3
    obtain ⟨cx, fx, gx⟩ := x3
    obtain ⟨cy, fy, gy⟩ := y3
    obtain ⟨cz, fz, gz⟩ := z3
    go_wp2_with fail
    refine bodyPost_ret (v := rcv t3 n r3 n3) (by simp [results, Tryz.results69, go_sem, cz]) rfl ⟨by rw [unhide HS], ?_⟩
    repeat (refine Below.setCell ?_ (by simp <;> omega) _)
    exact unhide B3
end Go.Proofs.YtcmoffiigpchiaaGreat

namespace Go.Proofs.YtcmoffiigpchiaaGreat
open Go.RowKit

theorem empty_list (t : ByteArray) (h : t = ⟨#[]⟩) : t.toList.isEmpty = true := by
  subst h
  rw [ByteArray.toList_eq]
  rfl
theorem empty_not (t : ByteArray) (h : ¬ t = ⟨#[]⟩) : t.toList.isEmpty = false := by
  cases hx : t.toList.isEmpty with
  | false => rfl
  | true =>
    exfalso
    apply h
    rw [ByteArray.toList_eq] at hx
    apply ByteArray.ext
    simpa using hx
namespace RM
theorem place_again {m : RM} (hi : Inv m) (h : (place m).2 = true) : place (place m).1 = ((place m).1, false) := by
  have e := (place_from hi).2 h
  have hr := place_room' m
  have r0 := hi.ok.room0
  have hlt : ((place m).1.all.length : Int) - (place m).1.from_ < (place m).1.room := by rw [e, hr]; omega
  generalize (place m).1 = q at *
  unfold place
  rw [if_pos hlt]
theorem save_again {m : RM} (hi : Inv m) (h : (place m).2 = true) : save (place m).1 = { put (place m).1 (Frame.ofState (place m).1.all.length m.s) with last := m.s.n } := by
  have e := place_again hi h
  have hs := place_s m
  generalize (place m).1 = q at *
  unfold save
  rw [e]
  simp only [put, hs]
theorem save_again_ok {m : RM} (hi : Inv m) (h : (place m).2 = true) (hl : m.all.length < 4611686018427387902) : (save (place m).1).Ok := by
  rw [save_again hi h]
  have hs := place_s m
  have hal : (place m).1.all.length = m.all.length := by rw [place_all]
  obtain ⟨p1, p2, p3⟩ := place_room hi.ok hi.fit
  have hr := place_room' m
  have po := place_ok hi.ok
  have hz : (Frame.ofState (place m).1.all.length m.s).size = 40 := Frame.ofState_size hi.ok.legal
  generalize (place m).1 = q at *
  have e1 : m.s.n = (put q (Frame.ofState q.all.length m.s)).s.n := by simp [put, hs]
  have := last_ok (put_ok po hz (by omega) (by omega))
  rw [← e1] at this
  exact this
theorem note_true {m : RM} (hi : Inv m) (h : (place m).2 = true) (c : ChV) : note m c = put (save (place m).1) (Frame.ofChoice (save (place m).1).all.length m.s.n.toNat c) := by
  rw [save_again hi h]
  unfold note
  simp only [h, if_true]
theorem note_false {m : RM} (h : (place m).2 = false) (c : ChV) : note m c = put (place m).1 (Frame.ofChoice (place m).1.all.length m.s.n.toNat c) := by
  unfold note
  simp [h]
end RM

set_option maxRecDepth 100000 in
set_option maxHeartbeats 400000 in
theorem withChoice_some (m : RM) (hi : RM.Inv m) (c : ChV) (hc : Mach.Chosen c) (h : (RM.place m).2 = false) (w : World) :
    Calls Tryz.prog 66 #[m.rcd, m.s.val, c.val] w fun e w' => e = .returned (RM.note m c).rcd ∧ Below w.heap.size w w' := by
  have hne := empty_not (RM.traceOf (RM.place m).1) (fun e => by have := (RM.place_none hi).2 e; rw [h] at this; cases this)
  have HR := hide (withRoom_code m hi.ok (fun _ => hi.head))
  have HO := hide (ofChoice_code (RM.place m).1.all.length m.s.n hi.ok.legal.n0 c hc)
  have HW := hide (with_code (RM.place m).1 (RM.place_ok hi.ok) (Frame.ofChoice (RM.place m).1.all.length m.s.n.toNat c) (Frame.ofChoice_size _ _ _))
  rw [RM.note_false h c]
  unfold RM.rcd at *
  generalize Frame.ofChoice (RM.place m).1.all.length m.s.n.toNat c = fr at *
  generalize RM.traceOf (RM.put (RM.place m).1 fr) = t3 at *
  generalize (RM.put (RM.place m).1 fr).room = r3 at *
  generalize (RM.put (RM.place m).1 fr).last = l3 at *
  generalize (RM.put (RM.place m).1 fr).all.length % 65536 = n3 at *
  generalize RM.traceOf (RM.place m).1 = t2 at *
  generalize (RM.place m).1.room = r2 at *
  generalize (RM.place m).1.last = l2 at *
  generalize (RM.place m).1.all.length % 65536 = n2 at *
  generalize RM.traceOf m = t1 at *
  generalize m.room = r1 at *
  generalize m.last = l1 at *
  generalize m.all.length % 65536 = n1 at *
  generalize m.s = s at *
  clear hi hc h
  obtain ⟨n, pc, regs, cells, clock, handler, back, pending, halted⟩ := s
  obtain ⟨input, ticks, interrupt⟩ := c
  go_enter Tryz.func66, Tryz.ntmps66
  go_wp2_with fail
  refine (unhide HR _).mono ?_
  rintro e w1 ⟨rfl, hb⟩
  obtain ⟨x1, y1, z1, v1, l1⟩ := four_boxes hb
  have X1 := hide x1
  have Y1 := hide y1
  have Z1 := hide z1
  have V1 := hide v1
  have B1 := hide l1
  clear hb x1 y1 z1 v1 l1
  obtain ⟨cx, fx, gx⟩ := unhide X1
  obtain ⟨cy, fy, gy⟩ := unhide Y1
  obtain ⟨cz, fz, gz⟩ := unhide Z1
  clear gx gy gz
  go_wp2_with fail
  refine (unhide HO _).mono ?_
  rintro e w2 ⟨rfl, hb⟩
  have X2 := hide (((unhide X1).put4 _ _ _ _).next hb)
  have V2 := hide (((unhide V1).off4 (by omega) _ _ _ _).next hb)
  have B2 := hide ((bel_put4 (unhide B1) (Nat.le_refl _) _ _ _ _).trans (hb.mono (by have := (unhide B1).size; simp; omega)))
  clear hb cx fx cy fy cz fz
  obtain ⟨cx, fx, gx⟩ := unhide X2
  clear gx
  go_wp2_with fail
  refine (unhide HW _).mono ?_
  rintro e w3 ⟨rfl, hb⟩
  have V3 := hide ((unhide V2).next hb)
  have B3 := hide ((unhide B2).trans (hb.mono (unhide B2).size))
  clear hb cx fx
  obtain ⟨cx, fx, gx⟩ := unhide V3
  go_wp2_with fail
  refine bodyPost_ret (v := rcv t3 l3 r3 n3) (by simp [results, Tryz.results66, go_sem, cx]) rfl ⟨rfl, ?_⟩
  repeat (refine Below.setCell ?_ (by simp <;> omega) _)
  exact unhide B3

set_option maxRecDepth 100000 in
set_option maxHeartbeats 400000 in
theorem withChoice_none (m : RM) (hi : RM.Inv m) (hl : m.all.length < 4611686018427387902) (c : ChV) (hc : Mach.Chosen c) (h : (RM.place m).2 = true) (w : World) :
    Calls Tryz.prog 66 #[m.rcd, m.s.val, c.val] w fun e w' => e = .returned (RM.note m c).rcd ∧ Below w.heap.size w w' := by
  have hne := empty_list (RM.traceOf (RM.place m).1) ((RM.place_none hi).1 h)
  have hs := RM.place_s m
  have HR := hide (withRoom_code m hi.ok (fun _ => hi.head))
  have HT := hide (withState_code (RM.place m).1 (RM.place_ok hi.ok) (fun hlt => by have := (RM.place_from hi).2 h; omega))
  have HO := hide (ofChoice_code (RM.save (RM.place m).1).all.length m.s.n hi.ok.legal.n0 c hc)
  have HW := hide (with_code (RM.save (RM.place m).1) (RM.save_again_ok hi h hl) (Frame.ofChoice (RM.save (RM.place m).1).all.length m.s.n.toNat c) (Frame.ofChoice_size _ _ _))
  rw [RM.note_true hi h c]
  rw [hs] at HT
  unfold RM.rcd at *
  generalize Frame.ofChoice (RM.save (RM.place m).1).all.length m.s.n.toNat c = fr at *
  generalize RM.traceOf (RM.put (RM.save (RM.place m).1) fr) = t4 at *
  generalize (RM.put (RM.save (RM.place m).1) fr).room = r4 at *
  generalize (RM.put (RM.save (RM.place m).1) fr).last = l4 at *
  generalize (RM.put (RM.save (RM.place m).1) fr).all.length % 65536 = n4 at *
  generalize RM.traceOf (RM.save (RM.place m).1) = t3 at *
  generalize (RM.save (RM.place m).1).room = r3 at *
  generalize (RM.save (RM.place m).1).last = l3 at *
  generalize (RM.save (RM.place m).1).all.length % 65536 = n3 at *
  generalize RM.traceOf (RM.place m).1 = t2 at *
  generalize (RM.place m).1.room = r2 at *
  generalize (RM.place m).1.last = l2 at *
  generalize (RM.place m).1.all.length % 65536 = n2 at *
  generalize RM.traceOf m = t1 at *
  generalize m.room = r1 at *
  generalize m.last = l1 at *
  generalize m.all.length % 65536 = n1 at *
  clear hs
  generalize m.s = s at *
  clear hi hc h hl
  obtain ⟨n, pc, regs, cells, clock, handler, back, pending, halted⟩ := s
  obtain ⟨input, ticks, interrupt⟩ := c
  go_enter Tryz.func66, Tryz.ntmps66
  go_wp2_with fail
  refine (unhide HR _).mono ?_
  rintro e w1 ⟨rfl, hb⟩
  obtain ⟨x1, y1, z1, v1, l1⟩ := four_boxes hb
  have X1 := hide x1
  have Y1 := hide y1
  have Z1 := hide z1
  have V1 := hide v1
  have B1 := hide l1
  clear hb x1 y1 z1 v1 l1
  obtain ⟨cx, fx, gx⟩ := unhide X1
  obtain ⟨cy, fy, gy⟩ := unhide Y1
  clear gx gy
  go_wp2_with fail
  refine (unhide HT _).mono ?_
  rintro e w2 ⟨rfl, hb⟩
  have X2 := hide (((unhide X1).put4 _ _ _ _).next hb)
  have Y2 := hide (((unhide Y1).off4 (by omega) _ _ _ _).next hb)
  have Z2 := hide (((unhide Z1).off4 (by omega) _ _ _ _).next hb)
  have V2 := hide (((unhide V1).off4 (by omega) _ _ _ _).next hb)
  have B2 := hide ((bel_put4 (unhide B1) (Nat.le_refl _) _ _ _ _).trans (hb.mono (by have := (unhide B1).size; simp; omega)))
  clear hb cx fx cy fy
  obtain ⟨cx, fx, gx⟩ := unhide X2
  obtain ⟨cy, fy, gy⟩ := unhide Y2
  obtain ⟨cz, fz, gz⟩ := unhide Z2
  clear gx gy gz
  go_wp2_with fail
  refine (unhide HO _).mono ?_
  rintro e w3 ⟨rfl, hb⟩
  have X3 := hide (((unhide X2).put4 _ _ _ _).next hb)
  have V3 := hide (((unhide V2).off4 (by omega) _ _ _ _).next hb)
  have B3 := hide ((bel_put4 (unhide B2) (Nat.le_refl _) _ _ _ _).trans (hb.mono (by have := (unhide B2).size; simp; omega)))
  clear hb cx fx cy fy cz fz
  obtain ⟨cx, fx, gx⟩ := unhide X3
  clear gx
  go_wp2_with fail
  refine (unhide HW _).mono ?_
  rintro e w4 ⟨rfl, hb⟩
  have V4 := hide ((unhide V3).next hb)
  have B4 := hide ((unhide B3).trans (hb.mono (unhide B3).size))
  clear hb cx fx
  obtain ⟨cx, fx, gx⟩ := unhide V4
  go_wp2_with fail
  refine bodyPost_ret (v := rcv t4 l4 r4 n4) (by simp [results, Tryz.results66, go_sem, cx]) rfl ⟨rfl, ?_⟩
  repeat (refine Below.setCell ?_ (by simp <;> omega) _)
  exact unhide B4

theorem withChoice_code (m : RM) (hi : RM.Inv m) (hl : m.all.length < 4611686018427387902) (c : ChV) (hc : Mach.Chosen c) (w : World) :
    Calls Tryz.prog 66 #[m.rcd, m.s.val, c.val] w fun e w' => e = .returned (RM.note m c).rcd ∧ Below w.heap.size w w' := by
  cases h : (RM.place m).2 with
  | false => exact withChoice_some m hi c hc h w
  | true => exact withChoice_none m hi hl c hc h w
end Go.Proofs.YtcmoffiigpchiaaGreat
