import Derived.Test.YtbjplijhoibclaaStW
import Derived.BigRegion
namespace Go.Proofs.Ytbjplijhoibclaa
open Go.RowKit

set_option maxRecDepth 100000 in
set_option maxHeartbeats 400000 in
theorem put_walk (b r : ByteArray) (k n cap : Nat) (hk : k < b.size) (hn : n < 256) (C : Array Value) (w : World)
    (hconv : (convert 9 63 (.string b)).run Try.prog w = .ok (.slice (some ⟨w.heap.size, 0, none⟩) b.size cap) (w.drew.alloc (.cells C 5 (C.size, C.size + 1))))
    (c0 : Value) (hc : (w.alloc (.cells C 5 (C.size, C.size + 1))).cell? ⟨w.heap.size, k, none⟩ = some c0) (hz : (w.alloc (.cells C 5 (C.size, C.size + 1))).frozen? ⟨w.heap.size, k, none⟩ = false)
    (hback : (convert 63 9 (.slice (some ⟨w.heap.size, 0, none⟩) b.size cap)).run Try.prog ((w.alloc (.cells C 5 (C.size, C.size + 1))).setCell ⟨w.heap.size, k, none⟩ (.int .u8 n)).drew = .ok (.string r) ((w.alloc (.cells C 5 (C.size, C.size + 1))).setCell ⟨w.heap.size, k, none⟩ (.int .u8 n)).drew) :
    Calls Try.prog 96 #[.string b, .int .i64 k, .int .i64 n] w fun e w' => e = .returned (.string r) ∧ Below w.heap.size w w' := by
  go_enter Try.func96, Try.ntmps96
  go_wp2
  go_ret
  exact ⟨rfl, (((Below.refl _ _).alloc (Nat.le_refl _) _).setCell (Nat.le_refl _) _).drew⟩

theorem bytesRow_size (s : ByteArray) (cap : Nat) : s.size ≤ (bytesRow s cap).size := by
  unfold bytesRow
  rw [Array.size_append, Array.size_map]
  exact Nat.le_add_right _ _

theorem put_code (b : ByteArray) (i v : Int) (h0 : 0 ≤ i) (h1 : i < b.size) (v0 : 0 ≤ v) (v1 : v < 256) (w : World) :
    Calls Try.prog 96 #[.string b, .int .i64 i, .int .i64 v] w fun e w' => e = .returned (.string (Mach.setB b i.toNat v.toNat)) ∧ Below w.heap.size w w' := by
  obtain ⟨k, rfl⟩ := Int.eq_ofNat_of_zero_le h0
  obtain ⟨n, rfl⟩ := Int.eq_ofNat_of_zero_le v0
  rw [Int.toNat_natCast, Int.toNat_natCast]
  have hk : k < b.size := by omega
  have hconv := run_bytes_of_string (P := Try.prog) w 9 63 5 b Try.underlying9 Try.underlying63 Try.underlying5
  have hrow : ∀ j (hj : j < b.data.size), (bytesRow b (grownCap w b.size 0 5))[j]? = some (.int .u8 (b.data[j].toNat : Int)) := fun j hj => bytesRow_at b _ j hj
  have hsz := bytesRow_size b (grownCap w b.size 0 5)
  generalize grownCap w b.size 0 5 = cap at *
  generalize bytesRow b cap = C at *
  have hkd : k < b.data.size := hk
  have hc : (w.alloc (.cells C 5 (C.size, C.size + 1))).cell? ⟨w.heap.size, k, none⟩ = some (.int .u8 (b.data[k].toNat : Int)) := by
    rw [World.cell?_alloc_mark]; exact hrow k hkd
  refine put_walk b (Mach.setB b k n) k n cap hk (by omega) C w hconv _ hc ?_ ?_
  · rw [World.frozen?_alloc_mark]
    have : ¬ C.size ≤ k := by omega
    simp [this]
  · have e := run_convert_bytes_back (P := Try.prog) ((w.alloc (.cells C 5 (C.size, C.size + 1))).setCell ⟨w.heap.size, k, none⟩ (.int .u8 n)).drew 63 9 5 ⟨w.heap.size, 0, none⟩ cap (b.data.toList.set k (UInt8.ofNat n)) Try.underlying63 Try.underlying5 Try.underlying9 ?_
    · rw [List.length_set, Array.length_toList] at e
      exact e
    · intro j hj
      have hj' : j < b.data.size := by simpa using hj
      show ((w.alloc (.cells C 5 (C.size, C.size + 1))).setCell ⟨w.heap.size, k, none⟩ (.int .u8 n)).cell? _ = _
      rw [Addr.add_mid, Nat.zero_add]
      by_cases hjk : k = j
      · subst hjk
        rw [World.cell?_setCell_same _ _ _ hc]
        have : (UInt8.ofNat n).toNat = n := by simp; omega
        simp [this]
      · rw [World.cell?_setCell_other _ _ _ _ (by simp; try omega), World.cell?_alloc_mark, hrow j hj']
        simp [hjk]

theorem one_byte (n : Nat) (hn : n < 256) (w : World) :
    (convert 63 9 (.slice (some ⟨w.heap.size, 0, none⟩) 1 1)).run Try.prog (w.alloc (.cells #[.int .u8 n] 5)).drew = .ok (.string ⟨#[UInt8.ofNat n]⟩) (w.alloc (.cells #[.int .u8 n] 5)).drew := by
  refine run_convert_bytes_back (P := Try.prog) _ 63 9 5 ⟨w.heap.size, 0, none⟩ 1 [UInt8.ofNat n] Try.underlying63 Try.underlying5 Try.underlying9 ?_
  intro j hj
  have hj0 : j = 0 := by simpa using hj
  subst hj0
  have : (UInt8.ofNat n).toNat = n := by simp; omega
  show (w.alloc (.cells #[.int .u8 n] 5)).cell? _ = _
  rw [Addr.add_mid, Nat.zero_add, World.cell?_alloc_mark]
  simp [this]

set_option maxRecDepth 100000 in
set_option maxHeartbeats 400000 in
theorem set_pos (b : ByteArray) (k v n : Nat) (hk : k < b.size) (hb : b.size ≤ 16) (hn : n < 256) (hv : (v : Int) % 256 = n) (h2 : v < 9223372036854775807) (w : World) :
    Calls Try.prog 108 #[.string b, .int .i64 k, .int .i64 v] w fun e w' => e = .returned (.string (b.extract 0 k ++ ⟨#[UInt8.ofNat n]⟩ ++ b.extract (k + 1) b.size)) ∧ Below w.heap.size w w' := by
  have hcv := one_byte n hn
  have hk' : k ≤ b.size := by omega
  have hk2 : k + 1 ≤ b.size := by omega
  go_enter Try.func108, Try.ntmps108
  go_wp2
  go_region
  all_goals
    go_wp2
    go_ret
    exact ⟨by simp, ((Below.refl _ _).alloc (Nat.le_refl _) _).drew⟩

set_option maxRecDepth 100000 in
set_option maxHeartbeats 400000 in
theorem set_neg (b : ByteArray) (k : Nat) (v : Int) (n : Nat) (hk : k < b.size) (hb : b.size ≤ 16) (hn : n < 256) (hv : v + 256 = n) (h2 : v < 0) (h3 : -256 < v) (w : World) :
    Calls Try.prog 108 #[.string b, .int .i64 k, .int .i64 v] w fun e w' => e = .returned (.string (b.extract 0 k ++ ⟨#[UInt8.ofNat n]⟩ ++ b.extract (k + 1) b.size)) ∧ Below w.heap.size w w' := by
  have hcv := one_byte n hn
  have hk' : k ≤ b.size := by omega
  have hk2 : k + 1 ≤ b.size := by omega
  have htm : v.tmod 256 = v := by
    have : (-v).tmod 256 = -v := by rw [Int.tmod_eq_emod_of_nonneg (by omega)]; omega
    rw [Int.neg_tmod] at this
    omega
  go_enter Try.func108, Try.ntmps108
  go_wp2
  go_region
  all_goals
    go_wp2
    go_ret
    exact ⟨by simp, ((Below.refl _ _).alloc (Nat.le_refl _) _).drew⟩

theorem setB_parts (b : ByteArray) (k n : Nat) (hk : k < b.size) : b.extract 0 k ++ ⟨#[UInt8.ofNat n]⟩ ++ b.extract (k + 1) b.size = Mach.setB b k n := by
  have hd : k < b.data.toList.length := by simpa using hk
  apply ByteArray.ext
  show (b.extract 0 k ++ ⟨#[UInt8.ofNat n]⟩ ++ b.extract (k + 1) b.size).data = (b.data.toList.set k (UInt8.ofNat n)).toArray
  rw [List.set_eq_take_append_cons_drop, if_pos hd]
  apply Array.toList_inj.1
  simp [ByteArray.data_append, ByteArray.data_extract]
  exact List.take_of_length_le (by simp)

/-- The document's 'set': the number modulo 256. -/
theorem set_ref (b : ByteArray) (i v : Int) (h0 : 0 ≤ i) (h1 : i < b.size) (hb : b.size ≤ 16) (v0 : -256 < v) (v1 : v < 9223372036854775807) (w : World) :
    Calls Try.prog 108 #[.string b, .int .i64 i, .int .i64 v] w fun e w' => e = .returned (.string (Mach.setB b i.toNat (v % 256).toNat)) ∧ Below w.heap.size w w' := by
  obtain ⟨k, rfl⟩ := Int.eq_ofNat_of_zero_le h0
  rw [Int.toNat_natCast]
  have hk : k < b.size := by omega
  rw [← setB_parts b k _ hk]
  by_cases hv : 0 ≤ v
  · obtain ⟨n, rfl⟩ := Int.eq_ofNat_of_zero_le hv
    exact set_pos b k n ((n : Int) % 256).toNat hk hb (by omega) (by omega) (by omega) w
  · have e : (v % 256).toNat = (v + 256).toNat := by omega
    rw [e]
    exact set_neg b k v (v + 256).toNat hk hb (by omega) (by omega) (by omega) v0 w
end Go.Proofs.Ytbjplijhoibclaa
