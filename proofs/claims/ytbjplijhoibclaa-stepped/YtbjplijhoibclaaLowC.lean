import Derived.Test.YtbjplijhoibclaaRec3
import Derived.Test.YtbjplijhoibclaaBoxW
import Derived.Test.YtbjplijhoibclaaSumW
import Derived.Laws.AppendOwn
namespace Go.Proofs.Ytbjplijhoibclaa
open Go.RowKit

theorem info8 : (Try.prog.info? 5).map (fun i => (i.zero, i.size, i.bytes)) = some (some (.int .u8 0), 1, 1) := by kernel_rfl

def bvals (l : List UInt8) : List Value := l.map fun b => .int .u8 (b.toNat : Int)
/-- A slice of bytes that a call made for itself. -/
def Bytes (w wr : World) (t : Value) (l : List UInt8) : Prop :=
  ∃ g cap, t = .slice (some ⟨g, 0, none⟩) l.length cap ∧ wr.ownsRow w.heap.size 5 1 t l.length (bvals l) ∧ Below w.heap.size w wr
theorem Bytes.made (w : World) : Bytes w (w.alloc (.cells #[] 5)) (.slice (some ⟨w.heap.size, 0, none⟩) 0 0) [] :=
  ⟨_, 0, rfl, World.ownsRow_made w #[] 0 (Nat.le_refl _) (Nat.zero_le _) (by simp), (Below.refl _ _).alloc (Nat.le_refl _) _⟩
theorem Bytes.snoc {w wr w1 : World} {g cap n : Nat} {l : List UInt8} {v' : Value} {b : UInt8} {o : Obj} (hn : l.length = n)
    (hg : wr.ownsRow w.heap.size 5 1 (.slice (some ⟨g, 0, none⟩) n cap) n (bvals l)) (hb : Below w.heap.size w wr)
    (h1 : w1.ownsRow w.heap.size 5 1 v' (n + 1) (bvals l ++ [.int .u8 (b.toNat : Int)])) (h2 : (wr.alloc o).grownBy w1 (Value.slice (some ⟨g, 0, none⟩) n cap).ownBlock) :
    Bytes w w1 v' (l ++ [b]) := by
  subst hn
  have hlt := hg.lt g rfl
  have hbel : Below w.heap.size w w1 := (hb.alloc hb.size o).grown h2 (by have := hb.size; simp; omega) (fun k hk => by
    simp [Value.ownBlock] at hk
    omega)
  have e : bvals (l ++ [b]) = bvals l ++ [.int .u8 (b.toNat : Int)] := by simp [bvals]
  have hl : (l ++ [b]).length = l.length + 1 := by simp
  rcases h1.2 with ⟨_, h0⟩ | ⟨g', cap', cur, hv, _⟩
  · omega
  · exact ⟨g', cap', by rw [hl]; exact hv, by rw [hl, e]; exact h1, hbel⟩
theorem bytes_back {w wr : World} {g n cap : Nat} {l : List UInt8} (hn : l.length = n) (h : wr.ownsRow w.heap.size 5 1 (.slice (some ⟨g, 0, none⟩) n cap) n (bvals l)) :
    (convert 63 9 (.slice (some ⟨g, 0, none⟩) n cap)).run Try.prog wr = .ok (.string ⟨l.toArray⟩) wr := by
  subst hn
  refine run_convert_bytes_back (P := Try.prog) wr 63 9 5 ⟨g, 0, none⟩ cap l Try.underlying63 Try.underlying5 Try.underlying9 ?_
  intro j hj
  exact h.cells (g := g) rfl j _ (by simp [bvals, hj])
theorem news_byte (w : World) (v : Value) (t : TypeId) : ∀ j u, [v][j]? = some u → (w.alloc (.cells #[v] t)).cell? ((⟨w.heap.size, 0, none⟩ : Addr).add j) = some u := by
  intro j u hu
  match j, hu with
  | 0, hu =>
    simp at hu
    subst hu
    rw [Addr.add_mid, Nat.zero_add, World.cell?_alloc_mark]
    rfl

set_option maxRecDepth 100000 in
set_option maxHeartbeats 1000000 in
theorem low_code (v size : Nat) (hs : size ≤ 64) (w : World) :
    Calls Try.prog 90 #[.int .i64 v, .int .i64 size] w fun e w' => e = .returned (.string (Frame.lowB v size)) ∧ Below w.heap.size w w' := by
  obtain ⟨i0, hi, hz0, hz1, hz2⟩ := info_parts info8
  go_enter Try.func90, Try.ntmps90
  go_wp2
  go_loopw [0, 5, 6] (fun x t i wr => ∃ k : Nat, k ≤ size ∧ i = .int .i64 k ∧ x = .int .i64 (v / 256 ^ k : Nat) ∧ Bytes w wr t (Frame.lowL v k)) (fun _ _ i _ => size - (intOf i).toNat)
  case atStart => exact ⟨0, Nat.zero_le _, rfl, by simp, Bytes.made w⟩
  case round =>
    obtain ⟨k, hk, rfl, rfl, g, cap, rfl, hown, hb⟩ := hrel
    have hlen := Frame.lowL_length v k
    rw [hlen] at hown ⊢
    by_cases hlt : k < size
    · have hu : v / 256 ^ k ≤ v := Nat.div_le_self _ _
      have HS : Hid (Frame.lowL v (k + 1) = Frame.lowL v k ++ [UInt8.ofNat (v / 256 ^ k % 256)]) := hide rfl
      have HD : Hid (v / 256 ^ (k + 1) = v / 256 ^ k / 256) := hide (by rw [Nat.pow_succ, Nat.div_div_eq_div_mul])
      generalize v / 256 ^ k = u at *
      have hm : (u : Int) % 256 = ((u % 256 : Nat) : Int) := by omega
      have hml : u % 256 < 256 := by omega
      generalize u % 256 = m at *
      have HO := hide hown
      have HB := hide hb
      have hbs := hb.size
      clear hown hb
      go_wp2_with (at_builtin; refine wpList_append_own _ rfl _ _ 63 rfl w.heap.size 5 i0 (.int .u8 0) 1 1 Try.underlying63 hi hz0 hz1 hz2 rfl (by decide) _ _ _ rfl ((unhide HO).alloc _) ⟨wr.heap.size, 0, none⟩ 1 1 [.int .u8 m] rfl rfl (news_byte wr _ _) (by intro u hu; simp at hu; subst hu; rfl) (by unfold maxLen; omega) (by omega) (by simp; omega) ?_; intro v' w1 hown' hgrow _; have O1 := hide hown'; have G1 := hide hgrow; clear hown' hgrow)
      go_roundw
      case rel =>
        refine ⟨k + 1, by omega, by go_num, by rw [HD.out]; go_num, ?_⟩
        have hmm : ((UInt8.ofNat m).toNat : Int) = m := by
          have : (UInt8.ofNat m).toNat = m := by simp; omega
          rw [this]
        have o1 := unhide O1
        have o0 := unhide HO
        have g1 := unhide G1
        rw [← hmm] at o1
        rw [HS.out]
        exact Bytes.snoc hlen o0 (unhide HB) o1 g1
      case measure => simp [intOf]; omega
    · have hkz : k = size := by omega
      subst hkz
      have hcv := bytes_back hlen hown
      have HB := hide hb
      clear hown hb
      go_wp2
      go_ret
      exact ⟨rfl, unhide HB⟩
theorem low_i (v size : Int) (v0 : 0 ≤ v) (s0 : 0 ≤ size) (s1 : size ≤ 64) (w : World) :
    Calls Try.prog 90 #[.int .i64 v, .int .i64 size] w fun e w' => e = .returned (.string (Frame.lowB v.toNat size.toNat)) ∧ Below w.heap.size w w' := by
  obtain ⟨n, rfl⟩ := Int.eq_ofNat_of_zero_le v0
  obtain ⟨k, rfl⟩ := Int.eq_ofNat_of_zero_le s0
  rw [Int.toNat_natCast, Int.toNat_natCast]
  exact low_code n k (by omega) w
theorem low_1 (v : Int) (v0 : 0 ≤ v) (w : World) : Calls Try.prog 90 #[.int .i64 v, .int .i64 1] w fun e w' => e = .returned (.string (Frame.lowB v.toNat 1)) ∧ Below w.heap.size w w' := low_i v 1 v0 (by decide) (by decide) w
theorem low_2 (v : Int) (v0 : 0 ≤ v) (w : World) : Calls Try.prog 90 #[.int .i64 v, .int .i64 2] w fun e w' => e = .returned (.string (Frame.lowB v.toNat 2)) ∧ Below w.heap.size w w' := low_i v 2 v0 (by decide) (by decide) w
theorem low_4 (v : Int) (v0 : 0 ≤ v) (w : World) : Calls Try.prog 90 #[.int .i64 v, .int .i64 4] w fun e w' => e = .returned (.string (Frame.lowB v.toNat 4)) ∧ Below w.heap.size w w' := low_i v 4 v0 (by decide) (by decide) w

set_option maxRecDepth 100000 in
set_option maxHeartbeats 1000000 in
theorem noughts_code (size : Nat) (hs : size ≤ 64) (w : World) :
    Calls Try.prog 63 #[.int .i64 size] w fun e w' => e = .returned (.string (Frame.zeroB size)) ∧ Below w.heap.size w w' := by
  obtain ⟨i0, hi, hz0, hz1, hz2⟩ := info_parts info8
  go_enter Try.func63, Try.ntmps63
  go_wp2
  go_loopw [3, 4] (fun t i wr => ∃ k : Nat, k ≤ size ∧ i = .int .i64 k ∧ Bytes w wr t (List.replicate k 0)) (fun _ i _ => size - (intOf i).toNat)
  case atStart => exact ⟨0, Nat.zero_le _, rfl, Bytes.made w⟩
  case round =>
    obtain ⟨k, hk, rfl, g, cap, rfl, hown, hb⟩ := hrel
    have hlen : (List.replicate k (0 : UInt8)).length = k := List.length_replicate
    rw [hlen] at hown ⊢
    by_cases hlt : k < size
    · have HO := hide hown
      have HB := hide hb
      have hbs := hb.size
      clear hown hb
      go_wp2_with (at_builtin; refine wpList_append_own _ rfl _ _ 63 rfl w.heap.size 5 i0 (.int .u8 0) 1 1 Try.underlying63 hi hz0 hz1 hz2 rfl (by decide) _ _ _ rfl ((unhide HO).alloc _) ⟨wr.heap.size, 0, none⟩ 1 1 [.int .u8 0] rfl rfl (news_byte wr _ _) (by intro u hu; simp at hu; subst hu; rfl) (by unfold maxLen; omega) (by omega) (by simp; omega) ?_; intro v' w1 hown' hgrow _; have O1 := hide hown'; have G1 := hide hgrow; clear hown' hgrow)
      go_roundw
      case rel =>
        refine ⟨k + 1, by omega, by go_num, ?_⟩
        rw [List.replicate_succ']
        exact Bytes.snoc hlen (unhide HO) (unhide HB) (unhide O1) (unhide G1)
      case measure => simp [intOf]; omega
    · have hkz : k = size := by omega
      subst hkz
      have hcv := bytes_back hlen hown
      have HB := hide hb
      clear hown hb
      go_wp2
      go_ret
      exact ⟨rfl, unhide HB⟩
end Go.Proofs.Ytbjplijhoibclaa
