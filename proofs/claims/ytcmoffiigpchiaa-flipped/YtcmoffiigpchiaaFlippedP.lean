import Derived.Test.YtcmoffiigpchiaaKeepS
import Derived.Test.YtcmoffiigpchiaaFlip
import Derived.Test.YtcmoffiigpchiaaRegL
import Derived.BigQuiet
namespace Go.Proofs.Ytcmoffiigpchiaa
open Go.ChangeShapes Go.WideShapes Go.ChangeAt Go.RowKit
open Go.ChangeMaps (open_string shut_string)
namespace FlippedP
open Keep

/-- Bytes, as they lie from the beginning of a block on. -/
structure BytesAt (w : World) (b : Nat) (L : List UInt8) : Prop where
  lt : b < w.heap.size
  at_ : ∀ (j : Nat) x, L[j]? = some x → w.cell? ⟨b, j, none⟩ = some (.int .u8 (x.toNat : Int)) ∧ w.frozen? ⟨b, j, none⟩ = false
theorem BytesAt.set {w : World} {b : Nat} {L : List UInt8} (h : BytesAt w b L) (j : Nat) (y : UInt8) (hj : j < L.length) : BytesAt (w.setCell ⟨b, j, none⟩ (.int .u8 (y.toNat : Int))) b (L.set j y) := by
  refine ⟨by simpa using h.lt, fun i x hx => ?_⟩
  have hi : i < L.length := by
    have := (List.getElem?_eq_some_iff.1 hx).1
    simpa using this
  obtain ⟨h1, h2⟩ := h.at_ i L[i] (List.getElem?_eq_getElem hi)
  rw [List.getElem?_set] at hx
  by_cases hij : j = i
  · subst hij
    rw [if_pos rfl, if_pos hj] at hx
    cases hx
    exact ⟨World.cell?_setCell_same _ _ _ h1, by simpa using h2⟩
  · rw [if_neg hij] at hx
    rw [List.getElem?_eq_getElem hi] at hx
    cases hx
    exact ⟨by rw [World.cell?_setCell_other _ _ _ _ (by simp; try omega)]; exact h1, by simpa using h2⟩
theorem BytesAt.drewN {w : World} {b : Nat} {L : List UInt8} (h : BytesAt w b L) (n : Nat) : BytesAt (w.drewN n) b L := ⟨h.lt, h.at_⟩
theorem bytes_back (w : World) (b cap : Nat) (L : List UInt8) (h : BytesAt w b L) : (convert 46 9 (.slice (some ⟨b, 0, none⟩) L.length cap)).run Try.prog w = .ok (.string ⟨L.toArray⟩) w := by
  refine run_convert_bytes_back (P := Try.prog) w 46 9 5 ⟨b, 0, none⟩ cap L Try.underlying46 Try.underlying5 Try.underlying9 ?_
  intro j hj
  rw [Addr.add_mid, Nat.zero_add]
  have := (h.at_ j L[j] (List.getElem?_eq_getElem hj)).1
  exact this
theorem tdiv_40 {a n : Nat} (h : a = 40 * n) : (a : Int).tdiv 40 = (n : Int) := by rw [Int.tdiv_eq_ediv_of_nonneg (by omega)]; omega
theorem not_lt_40 {a n : Nat} (h : a = 40 * n) (hn : 1 ≤ n) : ¬ (a : Int) < 40 := by omega
theorem wrap_one {a m : Nat} (h : a < 4294967295) (hm : m = 1 + a) : wrap64 ((1 : Int) + (a : Int)) = (m : Int) ∧ m < 4294967296 := by unfold wrap64; omega
theorem BytesAt.drew {w : World} {b : Nat} {L : List UInt8} (h : BytesAt w b L) : BytesAt w.drew b L := ⟨h.lt, h.at_⟩
theorem tmod_nat (a b : Nat) : (a : Int).tmod (b : Int) = ((a % b : Nat) : Int) := by
  rw [Int.tmod_eq_emod_of_nonneg (by omega)]
  rfl
theorem tdiv_nat (a b : Nat) : (a : Int).tdiv (b : Int) = ((a / b : Nat) : Int) := by
  rw [Int.tdiv_eq_ediv_of_nonneg (by omega)]
  rfl
theorem wrap_nat' {n : Nat} (h : n < 1000000) : IntKind.i64.wrap (n : Int) = (n : Int) := i64_wrap_nat n (by omega)
theorem byte_ix {kf nf bi q : Nat} (h1 : kf < nf) (h2 : nf ≤ 64) (h3 : bi + q < 320) : 40 * kf + (bi + q) / 8 < 40 * nf ∧ 40 * kf + (bi + q) / 8 < 1000000 ∧ 40 * kf < 1000000 ∧ (bi + q) / 8 < 1000000 ∧ (bi + q) % 8 < 8 ∧ bi + q < 1000000 := by omega
theorem turn_facts {kf nf bi q B0 j8 k8 ix sz : Nat} (h1 : kf < nf) (h2 : nf ≤ 64) (h3 : bi + q < 320) (hsz : sz = 40 * nf) (hB : B0 = 40 * kf) (hj : j8 = (bi + q) / 8) (hk : k8 = (bi + q) % 8) (hi : ix = B0 + j8) :
    IntKind.i64.wrap ((kf : Int) * 40) = (B0 : Int) ∧ ((bi : Int) + (q : Int)).tdiv 8 = (j8 : Int) ∧ IntKind.i64.wrap (j8 : Int) = (j8 : Int) ∧ IntKind.i64.wrap ((B0 : Int) + (j8 : Int)) = (ix : Int) ∧ ((bi : Int) + (q : Int)).tmod 8 = (k8 : Int) ∧ IntKind.i64.wrap (k8 : Int) = (k8 : Int) ∧ (0 : Int) ≤ (ix : Int) ∧ (ix : Int) < (sz : Int) ∧ ix < sz ∧ k8 < 8 ∧ (0 : Int) ≤ (k8 : Int) ∧ (k8 : Int) < 8 := by
  have e : ((bi : Int) + (q : Int)) = ((bi + q : Nat) : Int) := by omega
  have hb := byte_ix h1 h2 h3
  have e1 : (kf : Int) * 40 = (B0 : Int) := by omega
  have e2 : (B0 : Int) + (j8 : Int) = (ix : Int) := by omega
  refine ⟨by rw [e1]; exact wrap_nat' (by omega), by rw [e, hj]; exact tdiv_nat _ 8, wrap_nat' (by omega), by rw [e2]; exact wrap_nat' (by omega), by rw [e, hk]; exact tmod_nat _ 8, wrap_nat' (by omega), by omega, by omega, by omega, by omega, by omega, by omega⟩
/-- While bits are turned. -/
def TurnInv (w wr : World) (B fb xb r cap : Nat) (p : ByteArray) (m : RM) (l : List StV) (sv : Int) (bb : Nat) (L : List UInt8) : Prop :=
  BytesAt wr bb L ∧ FilmAt wr B fb xb r cap p m l sv ∧ Below w.heap.size w wr
theorem u8_xor_nat (a b : Nat) (ha : a < 256) (hb : b < 256) : bits .xor .u8 (a : Int) (b : Int) = ((a ^^^ b : Nat) : Int) := by
  have hx : a ^^^ b < 2 ^ 8 := Nat.xor_lt_two_pow ha hb
  show IntKind.u8.wrap ((BitVec.ofInt 8 (a : Int) ^^^ BitVec.ofInt 8 (b : Int)).toNat : Int) = _
  rw [BitVec.toNat_xor, ofInt_u8 a ha, ofInt_u8 b hb]
  exact u8_wrap_nat _ (by omega)
theorem shl_val {x : UInt8} {k8 : Nat} (h : k8 < 8) : bits .xor .u8 (x.toNat : Int) (IntKind.u8.wrap ((2 : Int) ^ k8)) = ((Hist.turnB x k8).toNat : Int) := by
  have hp : 2 ^ k8 < 2 ^ 8 := (Nat.pow_lt_pow_iff_right (by omega)).2 h
  have e : ((2 : Int) ^ k8) = ((2 ^ k8 : Nat) : Int) := by simp
  rw [e, u8_wrap_nat _ (by omega), u8_xor_nat _ _ x.toNat_lt (by omega), Hist.turnB_toNat x h]
theorem TurnInv.set {w wr : World} {B fb xb r cap : Nat} {p : ByteArray} {m : RM} {l : List StV} {sv : Int} {bb : Nat} {L : List UInt8} (h : TurnInv w wr B fb xb r cap p m l sv bb L) {j : Nat} (hj : j < L.length) (y : UInt8) (h1 : fb ≠ bb) (h2 : xb ≠ bb) (h3 : r ≠ bb) (hb : w.heap.size ≤ bb) : TurnInv w (wr.setCell ⟨bb, j, none⟩ (.int .u8 (y.toNat : Int))).drew B fb xb r cap p m l sv bb (L.set j y) := by
  obtain ⟨a1, a2, a3⟩ := h
  exact ⟨(a1.set j y hj).drew, (a2.keeps (o := [bb]) ((Keeps.refl wr [bb]).setCell (by simp) _) (by simpa using h1) (by simpa using h2) (by simpa using h3)).drew, bel_drew (a3.setCell hb _)⟩

set_option maxRecDepth 100000 in
set_option maxHeartbeats 2000000 in
theorem walk (a1 : Option Addr) (len1 cap1 : Nat) (V1 : Nat → Int) (h1 : (len1 : Int) ≤ 9223372036854775807) (room period : Int) (hr : i64ok room) (hq : i64ok period) (a2 : Option Addr) (len2 cap2 : Nat) (V2 : Nat → Int) (h2 : len2 < 1000000000000000000) (frame : Int) (hframe : i64ok frame) (bit : Int) (hbit : i64ok bit) (mask : Int) (hmask : i64ok mask) (w : World) (I1 : Ints w a1 len1 V1) (I2 : Ints w a2 len2 V2) :
    Calls Try.prog 6 #[.slice a1 len1 cap1, .int .i64 room, .int .i64 period, .slice a2 len2 cap2, .int .i64 frame, .int .i64 bit, .int .i64 mask] w fun e w' => e = .returned (.bool true) ∧ Below w.heap.size w w' := by
  have HP := hide (program_k a1 len1 cap1 h1 V1 w I1)
  have hp := progB_good V1 (min len1 32) (by omega)
  have k1 := kp_lt room (n := 63) (by decide)
  have k2 := kp_lt period (n := 50) (by decide)
  generalize progB V1 (min len1 32) = p at *
  have hsh := (Mach.good_of hp).short
  have hpz : p.size ≤ maxLen := by unfold maxLen; omega
  have HB1 := hide (begin_k p hp room period hr hq)
  have R1 := hide (runs_new (V := V2) (n := 2 + kp 0 60) (room := 2 + (kp room 63 : Int)) (period := 1 + (kp period 50 : Int)) hp (by omega) (by omega) (by omega) (by omega))
  generalize RM.new p (2 + (kp room 63 : Int)) (1 + (kp period 50 : Int)) = mf at *
  have HI2 := hide I2
  clear I1 I2 hr hq
  go_enter Try.func6, Try.ntmps6
  go_wp2_with fail
  refine (unhide HP).mono ?_
  rintro e w1 ⟨rfl, hd⟩
  have L1 := hide (drawn_below hd)
  clear hd
  go_wp2_with fail
  refine (unhide HB1 _).mono ?_
  rintro e w2 ⟨fb, xb, r, cap, rfl, hF, hb⟩
  have F2 := hide hF
  have L2 := hide (bel_then (unhide L1) hb)
  have lf := FilmAt.lt hF
  have s1 := (unhide L1).size
  have s2 := hb.size
  clear hF hb
  have HG1 := hide (goes_k w1.heap.size fb xb r cap p mf a2 len2 cap2 h2 V2 0 (by unfold i64ok; omega) w2 (Keep.ints_at (unhide HI2) s1 (unhide L2).block) (unhide F2) (unhide R1))
  go_wp2_with fail
  refine (unhide HG1).mono ?_
  rintro e w4 ⟨rfl, m4, r4, c4, l4, v4, hF, hR, hr4, hk4, h40, h41⟩
  have F4 := hide hF
  have L4 := hide (below_list (unhide L2) hk4 (by simp; omega))
  obtain ⟨hl0, hl1⟩ := runs_len hR
  obtain ⟨G, hG⟩ := hR.tale
  have hi4 := hR.inv
  obtain ⟨z1, z2, z3⟩ := Hist.trace_size hi4
  have hroom := hR.room
  have hsz := hG.size
  obtain ⟨nf, hnf⟩ : ∃ nf, nf = m4.all.length - m4.from_ := ⟨_, rfl⟩
  rw [← hnf] at z1 z2 z3
  have hnf64 : nf ≤ 64 := by omega
  have HX2 := hide hnf64
  have HPF := hide (pick_k frame nf (by omega) hframe (by omega))
  have hkf := kp_lt frame (n := nf) (by omega)
  have HPB := hide (pick_k bit 320 (by omega) hbit (by omega))
  have hkb := kp_lt bit (n := 320) (by omega)
  have HPM := hide (pick_k mask 4294967295 (by omega) hmask (by omega))
  have hkm := kp_lt mask (n := 4294967295) (by omega)
  generalize kp frame nf = kf at *
  generalize kp bit 320 = bi at *
  generalize kp mask 4294967295 = ma at *
  obtain ⟨mm, hmm⟩ : ∃ mm, mm = 1 + ma := ⟨_, rfl⟩
  have HEND := hide (fun i (t : ByteArray) h1 h2 h3 => Hist.flip_end hp hi4 hG (j := kf) (from_ := bi) (mm := mm) (i := i) (t := t) (by omega) h1 h2 h3)
  have HT4 := hide (fun W hW => trace_code xb m4 W hW)
  have hconv := run_bytes_of_string (P := Try.prog) w4 9 46 5 (RM.traceOf m4) Try.underlying9 Try.underlying46 Try.underlying5
  have hrow : ∀ j (hj : j < (RM.traceOf m4).data.size), (bytesRow (RM.traceOf m4) (grownCap w4 (RM.traceOf m4).size 0 5))[j]? = some (.int .u8 ((RM.traceOf m4).data[j].toNat : Int)) := fun j hj => bytesRow_at _ _ j hj
  have hbsz := bytesRow_size (RM.traceOf m4) (grownCap w4 (RM.traceOf m4).size 0 5)
  generalize grownCap w4 (RM.traceOf m4).size 0 5 = bcap at *
  generalize bytesRow (RM.traceOf m4) bcap = C at *
  have hSh := fun (t : ByteArray) M ht hS => hide (fun W hW => shows_k w1.heap.size fb xb r4 c4 p m4 l4 v4 hl1 hpz t ht M hS W hW)
  have HSP := fun (t : ByteArray) ht => hide (span_api t ht)
  have hTL : (RM.traceOf m4).data.toList.length = (RM.traceOf m4).size := Hist.len_data _
  have HBY : Hid (BytesAt (w4.alloc (.cells C 5 (C.size, C.size + 1))) w4.heap.size (RM.traceOf m4).data.toList) := hide (by
    refine ⟨by simp, fun j x hx => ?_⟩
    have hj := (List.getElem?_eq_some_iff.1 hx).1
    have hj' : j < (RM.traceOf m4).data.size := by simpa using hj
    refine ⟨?_, ?_⟩
    · rw [World.cell?_alloc_mark, hrow j hj']
      have : x = (RM.traceOf m4).data[j] := by
        have := (List.getElem?_eq_some_iff.1 hx).2
        rw [← this]
        simp
      rw [this]
    · rw [World.frozen?_alloc_mark]
      have hjs : j < (RM.traceOf m4).size := by omega
      have : ¬ C.size ≤ j := by omega
      simp [this])
  clear hF hR hk4 h40 h41 hG hi4 hroom hsz hrow hnf
  generalize hM0 : G.drop m4.from_ = M0 at *
  generalize RM.traceOf m4 = t4 at *
  have hd1 := tdiv_40 z1
  have hd3 := not_lt_40 z1 z2
  obtain ⟨hd5, hmm32⟩ := wrap_one hkm hmm
  have hT40 : (40 * nf : Nat) = t4.size := z1.symm
  have HZ1 := hide z1
  have HD5 := hide hd5
  have HT40 := hide hT40
  clear hmm z1 hT40 hM0 hkm
  have hf4 := (unhide F4).box.lt
  have hx4 := (unhide F4).code.lt
  have hr4l := ((unhide F4).row.lt r4 rfl).2
  obtain ⟨c0, f0, g0⟩ := (unhide F4).box
  clear g0
  go_wp2_with fail
  refine (unhide HT4 _ (unhide F4).code).mono ?_
  rintro e w' ⟨rfl, hw⟩
  obtain rfl := hw.symm
  have I0 : Hid (TurnInv w (w4.alloc (.cells C 5 (C.size, C.size + 1))).drew w1.heap.size fb xb r4 c4 p m4 l4 v4 w4.heap.size t4.data.toList) := hide ⟨(unhide HBY).drew, (unhide F4).next (bel_drew ((Below.refl _ _).alloc (Nat.le_refl _) _)), bel_drew ((unhide L4).alloc (unhide L4).size _)⟩
  have hwb : w.heap.size ≤ w4.heap.size := (unhide L4).size
  clear c0 f0
  go_upto_region 8 with fail
  generalize (w4.alloc (.cells C 5 (C.size, C.size + 1))).drew = w5 at *
  clear hconv HBY hbsz
  have h320 : ((320 : Nat) : Int) = 320 := rfl
  have h4g : ((4294967295 : Nat) : Int) = 4294967295 := rfl
  rw [h320] at HPB
  rw [h4g] at HPM
  clear h320 h4g
  go_wp2_with fail
  refine (unhide HPF _).mono ?_
  rintro e w' ⟨rfl, hw⟩
  obtain rfl := hw.symm
  go_wp2_with fail
  refine (unhide HPB _).mono ?_
  rintro e w' ⟨rfl, hw⟩
  obtain rfl := hw.symm
  go_wp2_with fail
  refine (unhide HPM _).mono ?_
  rintro e w' ⟨rfl, hw⟩
  obtain rfl := hw.symm
  have HX1 := hide (And.intro hkf (And.intro hkb hmm32))
  have hbb1 : fb ≠ w4.heap.size := Nat.ne_of_lt hf4
  have hbb2 : xb ≠ w4.heap.size := Nat.ne_of_lt hx4
  have hbb3 : r4 ≠ w4.heap.size := Nat.ne_of_lt hr4l
  have HX3 := hide (And.intro hbb1 (And.intro hbb2 hbb3))
  clear hbb1 hbb2 hbb3 hnf64 hr4 lf s1 s2 hl0 hl1 hf4 hx4 hr4l z2 z3 hkf hkb hmm32 hd1 hd3 hd5 k1 k2 hsh
  go_wp2_with fail
  go_loopw [20, 21, 22, 23] (fun m t i b wr => ∃ q tu : Nat, q ≤ 32 ∧ bi + q ≤ 320 ∧ m = .int .i64 ((mm / 2 ^ q : Nat) : Int) ∧ t = .int .i64 (tu : Int) ∧ tu ≤ q ∧ (tu = 0 ↔ mm % 2 ^ q = 0) ∧ i = .int .i64 (q : Int) ∧ TurnInv w wr w1.heap.size fb xb r4 c4 p m4 l4 v4 w4.heap.size (Hist.turnL t4.data.toList (40 * kf) bi mm q)) (fun _ _ i _ _ => 32 - (intOf i).toNat)
  case atStart => exact ⟨0, 0, Nat.zero_le _, by have := (unhide HX1).2.1; omega, by rw [Nat.pow_zero, Nat.div_one, unhide HD5], rfl, Nat.le_refl _, by simp [Nat.mod_one], rfl, unhide I0⟩
  case round =>
    obtain ⟨q, tu, hq1, hq2, rfl, rfl, htu, htz, rfl, hT⟩ := hrel
    have T5 := hide hT
    have HTZ := hide htz
    clear hT htz I0
    by_cases hlt : q < 32 ∧ bi + q < 320
    · obtain ⟨hlt1, hlt2⟩ := hlt
      obtain ⟨⟨tb1, tb2⟩, tb3⟩ := Hist.turned_bit mm q tu (unhide HTZ)
      have TB1 := hide tb1
      have TB2 := hide tb2
      have TB3 := hide tb3
      clear tb1 tb2 tb3
      have htl : Hist.turnL t4.data.toList (40 * kf) bi mm (q + 1) = if mm / 2 ^ q % 2 = 1 then (Hist.turnL t4.data.toList (40 * kf) bi mm q).set (40 * kf + (bi + q) / 8) (Hist.turnB ((Hist.turnL t4.data.toList (40 * kf) bi mm q).getD (40 * kf + (bi + q) / 8) 0) ((bi + q) % 8)) else Hist.turnL t4.data.toList (40 * kf) bi mm q := rfl
      have HTL := hide htl
      have hLl := Hist.turnL_length t4.data.toList (40 * kf) bi mm q
      have HLL : Hid ((Hist.turnL t4.data.toList (40 * kf) bi mm q).length = 40 * nf) := hide (by rw [hLl, hTL, unhide HZ1])
      clear htl hLl
      generalize Hist.turnL t4.data.toList (40 * kf) bi mm q = L at *
      have hm2 : (((mm / 2 ^ q : Nat) : Int)).tmod 2 = ((mm / 2 ^ q % 2 : Nat) : Int) := tmod_nat _ 2
      have hm3 : (((mm / 2 ^ q : Nat) : Int)).tdiv 2 = ((mm / 2 ^ q / 2 : Nat) : Int) := tdiv_nat _ 2
      have hmq : mm / 2 ^ q < 4294967296 := Nat.lt_of_le_of_lt (Nat.div_le_self _ _) (unhide HX1).2.2
      generalize hmqq : mm / 2 ^ q = mq at *
      have HMQ := hide hmqq
      clear hmqq
      obtain ⟨x1, x2, x3, x4, x5, x6⟩ := byte_ix (unhide HX1).1 (unhide HX2) hlt2
      by_cases hbit1 : mq % 2 = 1
      · have hm4 : ((mq : Int) % 2 == 1) = true := by
          have : (mq : Int) % 2 = 1 := by omega
          simp [this]
        obtain ⟨B0, hB0⟩ : ∃ B0, B0 = 40 * kf := ⟨_, rfl⟩
        obtain ⟨j8, hj8⟩ : ∃ j8, j8 = (bi + q) / 8 := ⟨_, rfl⟩
        obtain ⟨k8, hk8⟩ : ∃ k8, k8 = (bi + q) % 8 := ⟨_, rfl⟩
        obtain ⟨ix, hix⟩ : ∃ ix, ix = B0 + j8 := ⟨_, rfl⟩
        obtain ⟨y1, y2, y3, y4, y5, y6, y7, y8, y9, y10, y11, y12⟩ := turn_facts (unhide HX1).1 (unhide HX2) hlt2 (unhide HZ1) hB0 hj8 hk8 hix
        rw [← hB0, ← hj8, ← hk8, ← hix] at HTL
        have HTL1 : Hid (Hist.turnL t4.data.toList B0 bi mm (q + 1) = L.set ix (Hist.turnB (L.getD ix 0) k8)) := hide (by
          rw [unhide HTL, if_pos hbit1])
        have hxl : ix < L.length := by rw [unhide HLL, ← unhide HZ1]; exact y9
        obtain ⟨x, hx⟩ : ∃ x, L[ix]? = some x := ⟨_, List.getElem?_eq_getElem hxl⟩
        have hgd : L.getD ix 0 = x := by rw [List.getD_eq_getElem?_getD, hx]; rfl
        rw [hgd] at HTL1
        have hxc := ((unhide T5).1.at_ ix x hx).1
        have hxf := ((unhide T5).1.at_ ix x hx).2
        have hx256 := x.toNat_lt
        have HKB := hide (And.intro hB0 hix)
        clear hB0 hj8 hk8 hix hgd hx HTL x1 x2 x3 x4 x5 x6
        go_upto_region 19 with fail
        refine region_last2 19 (S := (fun w' => w'.cell? ⟨w4.heap.size, ix, none⟩ = some (.int .u8 (x.toNat : Int)))) _ rfl rfl (by kernel_rfl) (by kernel_rfl) (by first | go_keep | (go_simp; done)) (fun hHeld => ?_)
        simp only [List.pop_toArray, List.dropLast_cons_cons, List.dropLast_singleton]
        refine wpAnyH_take (i := 0) (v := ?_) rfl (by kernel_rfl) (by kernel_rfl) (by kernel_rfl) (fun _ _ _ h => h) (Or.inl ⟨by rfl, ?hy⟩) hHeld ?_
        case hy =>
          simp only [List.getElem_toArray, List.getElem_cons_zero]
          intro w' hSw
          (try dsimp only at hSw)
          go_simp
          with_reducible rfl
        simp only [List.getElem_toArray, List.getElem_cons_zero, Act.put, List.setIfInBounds_toArray, List.set_cons_zero, List.set_cons_succ]
        refine wpAnyH_take (i := 1) (v := ?_) rfl (by kernel_rfl) (by kernel_rfl) (by kernel_rfl) (fun _ _ _ h => h) (Or.inl ⟨by rfl, ?hy⟩) hHeld ?_
        case hy =>
          simp only [List.getElem_toArray, List.getElem_cons_succ, List.getElem_cons_zero]
          intro w' hSw
          (try dsimp only at hSw)
          go_simp
          with_reducible rfl
        simp only [List.getElem_toArray, List.getElem_cons_succ, List.getElem_cons_zero, Act.put, List.setIfInBounds_toArray, List.set_cons_zero, List.set_cons_succ]
        refine wpAnyH_take (i := 2) (v := ?_) rfl (by kernel_rfl) (by kernel_rfl) (by kernel_rfl) (fun _ _ _ h => h) (Or.inl ⟨by rfl, ?hy⟩) hHeld ?_
        case hy =>
          simp only [List.getElem_toArray, List.getElem_cons_succ, List.getElem_cons_zero]
          intro w' hSw
          (try dsimp only at hSw)
          go_simp
          with_reducible rfl
        simp only [List.getElem_toArray, List.getElem_cons_succ, List.getElem_cons_zero, Act.put, List.setIfInBounds_toArray, List.set_cons_zero, List.set_cons_succ]
        refine wpAnyH_take (i := 3) (v := ?_) rfl (by kernel_rfl) (by kernel_rfl) (by kernel_rfl) (fun _ _ _ h => h) (Or.inl ⟨by rfl, ?hy⟩) hHeld ?_
        case hy =>
          simp only [List.getElem_toArray, List.getElem_cons_succ, List.getElem_cons_zero]
          intro w' hSw
          (try dsimp only at hSw)
          go_simp
          with_reducible rfl
        simp only [List.getElem_toArray, List.getElem_cons_succ, List.getElem_cons_zero, Act.put, List.setIfInBounds_toArray, List.set_cons_zero, List.set_cons_succ]
        refine wpAnyH_take (i := 4) (v := ?_) rfl (by kernel_rfl) (by kernel_rfl) (by kernel_rfl) (fun _ _ _ h => h) (Or.inl ⟨by rfl, ?hy⟩) hHeld ?_
        case hy =>
          simp only [List.getElem_toArray, List.getElem_cons_succ, List.getElem_cons_zero]
          intro w' hSw
          (try dsimp only at hSw)
          go_simp
          with_reducible rfl
        simp only [List.getElem_toArray, List.getElem_cons_succ, List.getElem_cons_zero, Act.put, List.setIfInBounds_toArray, List.set_cons_zero, List.set_cons_succ]
        refine wpAnyH_take (i := 5) (v := ?_) rfl (by kernel_rfl) (by kernel_rfl) (by kernel_rfl) (fun _ _ _ h => h) (Or.inl ⟨by rfl, ?hy⟩) hHeld ?_
        case hy =>
          simp only [List.getElem_toArray, List.getElem_cons_succ, List.getElem_cons_zero]
          intro w' hSw
          (try dsimp only at hSw)
          go_simp
          with_reducible rfl
        simp only [List.getElem_toArray, List.getElem_cons_succ, List.getElem_cons_zero, Act.put, List.setIfInBounds_toArray, List.set_cons_zero, List.set_cons_succ]
        refine wpAnyH_take (i := 6) (v := ?_) rfl (by kernel_rfl) (by kernel_rfl) (by kernel_rfl) (fun _ _ _ h => h) (Or.inl ⟨by rfl, ?hy⟩) hHeld ?_
        case hy =>
          simp only [List.getElem_toArray, List.getElem_cons_succ, List.getElem_cons_zero]
          intro w' hSw
          (try dsimp only at hSw)
          go_simp
          with_reducible rfl
        simp only [List.getElem_toArray, List.getElem_cons_succ, List.getElem_cons_zero, Act.put, List.setIfInBounds_toArray, List.set_cons_zero, List.set_cons_succ]
        refine wpAnyH_take (i := 7) (v := ?_) rfl (by kernel_rfl) (by kernel_rfl) (by kernel_rfl) (fun _ _ _ h => h) (Or.inl ⟨by rfl, ?hy⟩) hHeld ?_
        case hy =>
          simp only [List.getElem_toArray, List.getElem_cons_succ, List.getElem_cons_zero]
          intro w' hSw
          (try dsimp only at hSw)
          go_simp
          with_reducible rfl
        simp only [List.getElem_toArray, List.getElem_cons_succ, List.getElem_cons_zero, Act.put, List.setIfInBounds_toArray, List.set_cons_zero, List.set_cons_succ]
        refine wpAnyH_take (i := 8) (v := ?_) rfl (by kernel_rfl) (by kernel_rfl) (by kernel_rfl) (fun _ _ _ h => h) (Or.inl ⟨by rfl, ?hy⟩) hHeld ?_
        case hy =>
          simp only [List.getElem_toArray, List.getElem_cons_succ, List.getElem_cons_zero]
          intro w' hSw
          (try dsimp only at hSw)
          go_simp
          with_reducible rfl
        simp only [List.getElem_toArray, List.getElem_cons_succ, List.getElem_cons_zero, Act.put, List.setIfInBounds_toArray, List.set_cons_zero, List.set_cons_succ]
        refine wpAnyH_take (i := 9) (v := ?_) rfl (by kernel_rfl) (by kernel_rfl) (by kernel_rfl) (fun _ _ _ h => h) (Or.inl ⟨by rfl, ?hy⟩) hHeld ?_
        case hy =>
          simp only [List.getElem_toArray, List.getElem_cons_succ, List.getElem_cons_zero]
          intro w' hSw
          (try dsimp only at hSw)
          go_simp
          with_reducible rfl
        simp only [List.getElem_toArray, List.getElem_cons_succ, List.getElem_cons_zero, Act.put, List.setIfInBounds_toArray, List.set_cons_zero, List.set_cons_succ]
        refine wpAnyH_take (i := 10) (v := ?_) rfl (by kernel_rfl) (by kernel_rfl) (by kernel_rfl) (fun _ _ _ h => h) (Or.inl ⟨by rfl, ?hy⟩) hHeld ?_
        case hy =>
          simp only [List.getElem_toArray, List.getElem_cons_succ, List.getElem_cons_zero]
          intro w' hSw
          (try dsimp only at hSw)
          go_simp
          with_reducible rfl
        simp only [List.getElem_toArray, List.getElem_cons_succ, List.getElem_cons_zero, Act.put, List.setIfInBounds_toArray, List.set_cons_zero, List.set_cons_succ]
        refine wpAnyH_take (i := 11) (v := ?_) rfl (by kernel_rfl) (by kernel_rfl) (by kernel_rfl) (fun _ _ _ h => h) (Or.inl ⟨by rfl, ?hy⟩) hHeld ?_
        case hy =>
          simp only [List.getElem_toArray, List.getElem_cons_succ, List.getElem_cons_zero]
          intro w' hSw
          (try dsimp only at hSw)
          go_simp
          with_reducible rfl
        simp only [List.getElem_toArray, List.getElem_cons_succ, List.getElem_cons_zero, Act.put, List.setIfInBounds_toArray, List.set_cons_zero, List.set_cons_succ]
        refine wpAnyH_take (i := 12) (v := ?_) rfl (by kernel_rfl) (by kernel_rfl) (by kernel_rfl) (fun _ _ _ h => h) (Or.inl ⟨by rfl, ?hy⟩) hHeld ?_
        case hy =>
          simp only [List.getElem_toArray, List.getElem_cons_succ, List.getElem_cons_zero]
          intro w' hSw
          (try dsimp only at hSw)
          go_simp
          with_reducible rfl
        simp only [List.getElem_toArray, List.getElem_cons_succ, List.getElem_cons_zero, Act.put, List.setIfInBounds_toArray, List.set_cons_zero, List.set_cons_succ]
        refine wpAnyH_take (i := 13) (v := ?_) rfl (by kernel_rfl) (by kernel_rfl) (by kernel_rfl) (fun _ _ _ h => h) (Or.inl ⟨by rfl, ?hy⟩) hHeld ?_
        case hy =>
          simp only [List.getElem_toArray, List.getElem_cons_succ, List.getElem_cons_zero]
          intro w' hSw
          (try dsimp only at hSw)
          go_simp
          with_reducible rfl
        simp only [List.getElem_toArray, List.getElem_cons_succ, List.getElem_cons_zero, Act.put, List.setIfInBounds_toArray, List.set_cons_zero, List.set_cons_succ]
        refine wpAnyH_take (i := 14) (v := ?_) rfl (by kernel_rfl) (by kernel_rfl) (by kernel_rfl) (fun _ _ _ h => h) (Or.inl ⟨by rfl, ?hy⟩) hHeld ?_
        case hy =>
          simp only [List.getElem_toArray, List.getElem_cons_succ, List.getElem_cons_zero]
          intro w' hSw
          (try dsimp only at hSw)
          go_simp
          with_reducible rfl
        simp only [List.getElem_toArray, List.getElem_cons_succ, List.getElem_cons_zero, Act.put, List.setIfInBounds_toArray, List.set_cons_zero, List.set_cons_succ]
        refine wpAnyH_take (i := 15) (v := ?_) rfl (by kernel_rfl) (by kernel_rfl) (by kernel_rfl) (fun _ _ _ h => h) (Or.inl ⟨by rfl, ?hy⟩) hHeld ?_
        case hy =>
          simp only [List.getElem_toArray, List.getElem_cons_succ, List.getElem_cons_zero]
          intro w' hSw
          (try dsimp only at hSw)
          go_simp
          with_reducible rfl
        simp only [List.getElem_toArray, List.getElem_cons_succ, List.getElem_cons_zero, Act.put, List.setIfInBounds_toArray, List.set_cons_zero, List.set_cons_succ]
        refine wpAnyH_take (i := 16) (v := ?_) rfl (by kernel_rfl) (by kernel_rfl) (by kernel_rfl) (fun _ _ _ h => h) (Or.inl ⟨by rfl, ?hy⟩) hHeld ?_
        case hy =>
          simp only [List.getElem_toArray, List.getElem_cons_succ, List.getElem_cons_zero]
          intro w' hSw
          (try dsimp only at hSw)
          go_simp
          with_reducible rfl
        simp only [List.getElem_toArray, List.getElem_cons_succ, List.getElem_cons_zero, Act.put, List.setIfInBounds_toArray, List.set_cons_zero, List.set_cons_succ]
        refine wpAnyH_take (i := 17) (v := ?_) rfl (by kernel_rfl) (by kernel_rfl) (by kernel_rfl) (fun _ _ _ h => h) (Or.inl ⟨by rfl, ?hy⟩) hHeld ?_
        case hy =>
          simp only [List.getElem_toArray, List.getElem_cons_succ, List.getElem_cons_zero]
          intro w' hSw
          (try dsimp only at hSw)
          go_simp
          with_reducible rfl
        simp only [List.getElem_toArray, List.getElem_cons_succ, List.getElem_cons_zero, Act.put, List.setIfInBounds_toArray, List.set_cons_zero, List.set_cons_succ]
        refine wpAnyH_take (i := 18) (v := ?_) rfl (by kernel_rfl) (by kernel_rfl) (by kernel_rfl) (fun _ _ _ h => h) (Or.inl ⟨by rfl, ?hy⟩) hHeld ?_
        case hy =>
          simp only [List.getElem_toArray, List.getElem_cons_succ, List.getElem_cons_zero]
          intro w' hSw
          (try dsimp only at hSw)
          go_simp
          with_reducible rfl
        simp only [List.getElem_toArray, List.getElem_cons_succ, List.getElem_cons_zero, Act.put, List.setIfInBounds_toArray, List.set_cons_zero, List.set_cons_succ]
        refine wpAnyH_done (by kernel_rfl) ?_ _
        refine last_step rfl (fun K hK => ?_)
        go_simp
        refine (unhide hK) _ _ ?_
        clear hK K
        rw [shl_val y10]
        have T6 := hide ((unhide T5).set hxl (Hist.turnB x k8) (unhide HX3).1 (unhide HX3).2.1 (unhide HX3).2.2 hwb)
        rw [← unhide HTL1] at T6
        generalize (wr.setCell ⟨w4.heap.size, ix, none⟩ (.int .u8 ((Hist.turnB x k8).toNat : Int))).drew = w6 at *
        clear hHeld hxc hxf
        have htu1 : tu < 1000000 := by omega
        have HB0 := (unhide HKB).1
        subst HB0
        clear HKB
        go_wp2_with fail
        go_roundw
        case rel => exact ⟨q + 1, tu + 1, by omega, by omega, by have := unhide TB3; go_num, by go_num, by omega, unhide TB1 hbit1, by go_num, unhide T6⟩
        case measure => simp [intOf]; omega
      · have hbit0 : mq % 2 = 0 := by omega
        have hm4 : ((mq : Int) % 2 == 1) = false := by
          have : (mq : Int) % 2 = 0 := by omega
          simp [this]
        have HTL1 : Hid (Hist.turnL t4.data.toList (40 * kf) bi mm (q + 1) = L) := hide (by
          rw [unhide HTL, if_neg hbit1])
        have T6 := hide (unhide T5)
        rw [← unhide HTL1] at T6
        go_wp2_with fail
        go_roundw
        case rel => exact ⟨q + 1, tu, by omega, by omega, by have := unhide TB3; go_num, rfl, by omega, unhide TB2 hbit0, by go_num, unhide T6⟩
        case measure => simp [intOf]; omega
    · have hLl := Hist.turnL_length t4.data.toList (40 * kf) bi mm q
      rw [hTL] at hLl
      have hE := unhide HEND q ⟨(Hist.turnL t4.data.toList (40 * kf) bi mm q).toArray⟩ hq2 hq1 rfl
      obtain ⟨hE1, hE2, hE3⟩ := hE
      have hback := bytes_back wr w4.heap.size bcap _ (unhide T5).1
      rw [hLl] at hback
      have F5 := hide (unhide T5).2.1
      have L5 := hide (unhide T5).2.2
      have HTZZ := hide (unhide HTZ)
      have hsz : t4.size ≤ 2560 := by
        have h1 := unhide HZ1
        have h2 := unhide HX2
        omega
      have HN : Hid (¬ (q < 32 ∧ bi + q < 320)) := hide hlt
      have hd : (((q : Int) < 32) → ¬ ((bi : Int) + (q : Int) < 320)) := by omega
      generalize (⟨(Hist.turnL t4.data.toList (40 * kf) bi mm q).toArray⟩ : ByteArray) = s at *
      have hss : s.size ≤ 1048576 := by omega
      have HSPs := hide (unhide (HSP s hss))
      clear hLl T5 HTZ hlt htu HPF HPB HPM
      by_cases ht0 : tu = 0
      · have hS := hE2 ((unhide HTZZ).1 ht0)
        have HSs := hide (unhide (hSh s M0 hss hS))
        subst ht0
        clear hE2 hE3 hE1 hS hSh HSP HEND
        generalize Hist.lastTo M0 = hi at *
        by_cases hq32 : (q : Int) < 32
        · have hd2 := hd hq32
          clear hd
          go_wp2_with fail
          refine (unhide HSs _ (unhide F5)).mono ?_
          rintro e w7 ⟨rfl, hb⟩
          have L7 := hide (bel_then (unhide L5) hb)
          clear hb
          go_wp2_with fail
          go_ret
          exact ⟨by simp, unhide L7⟩
        · clear hd
          go_wp2_with fail
          refine (unhide HSs _ (unhide F5)).mono ?_
          rintro e w7 ⟨rfl, hb⟩
          have L7 := hide (bel_then (unhide L5) hb)
          clear hb
          go_wp2_with fail
          go_ret
          exact ⟨by simp, unhide L7⟩
      · have ht1 : ((tu : Int) == 0) = false := by simpa using ht0
        obtain ⟨hA, hB⟩ := hE3 (fun h => ht0 ((unhide HTZZ).2 h))
        clear hE3
        by_cases hk0 : kf = 0
        · have hrn := hA hk0
          rw [hrn] at HSPs
          have hse : Hist.spanErr [] = 6 := by unfold Hist.spanErr; simp
          rw [hse] at HSPs
          have hkd : ((kf : Int) == 0) = true := by simp [hk0]
          clear hA hB hrn hse hE2 hE1 hSh HSP HEND hk0 ht0
          generalize Hist.lastTo [] = hi at *
          generalize Hist.firstN [] = lo at *
          by_cases hq32 : (q : Int) < 32
          · have hd2 := hd hq32
            clear hd
            go_wp2_with fail
            refine (unhide HSPs _).mono ?_
            rintro e w7 ⟨rfl, hb⟩
            have L7 := hide (bel_then (unhide L5) hb)
            clear hb
            go_wp2_with fail
            go_ret
            exact ⟨by simp, unhide L7⟩
          · clear hd
            go_wp2_with fail
            refine (unhide HSPs _).mono ?_
            rintro e w7 ⟨rfl, hb⟩
            have L7 := hide (bel_then (unhide L5) hb)
            clear hb
            go_wp2_with fail
            go_ret
            exact ⟨by simp, unhide L7⟩
        · obtain ⟨hS, hr2⟩ := hB (by omega)
          have HSs := hide (unhide (hSh s _ hss hS))
          have hkf := (unhide HX1).1
          have h40 : 40 * kf ≤ s.size := by
            have := unhide HZ1
            omega
          rw [Nat.mul_comm 40 kf] at hr2 h40
          have HSP2 := hide (unhide (HSP (s.extract 0 (kf * 40)) (by rw [size_ex s h40]; omega)))
          have hse : Hist.spanErr (M0.take kf) = 0 := by unfold Hist.spanErr; simp only [hS.ne, if_false]
          rw [hr2, hse] at HSP2
          rw [hS.run, hse] at HSPs
          have hk1 : ((kf : Int) == 0) = false := by simpa using hk0
          have hkw : wrap64 ((kf : Int) * 40) = ((40 * kf : Nat) : Int) := by unfold wrap64; omega
          have hks : ((40 * kf : Nat) : Int) ≤ (s.size : Int) := by omega
          clear hA hB hS hr2 hse hE2 hE1 hSh HSP HEND hkf ht0 hk0
          generalize Hist.lastTo (M0.take kf) = hi at *
          generalize Hist.firstN (M0.take kf) = lo at *
          by_cases hq32 : (q : Int) < 32
          · have hd2 := hd hq32
            clear hd
            go_wp2_with fail
            refine (unhide HSPs _).mono ?_
            rintro e w7 ⟨rfl, hb⟩
            have F7 := hide ((unhide F5).next hb)
            have L7 := hide (bel_then (unhide L5) hb)
            clear hb
            go_wp2_with fail
            refine (unhide HSP2 _).mono ?_
            rintro e w8 ⟨rfl, hb⟩
            have F8 := hide ((unhide F7).next hb)
            have L8 := hide (bel_then (unhide L7) hb)
            clear hb
            go_wp2_with fail
            refine (unhide HSs _ (unhide F8)).mono ?_
            rintro e w9 ⟨rfl, hb⟩
            have L9 := hide (bel_then (unhide L8) hb)
            clear hb
            go_wp2_with fail
            go_ret
            exact ⟨by simp, unhide L9⟩
          · clear hd
            go_wp2_with fail
            refine (unhide HSPs _).mono ?_
            rintro e w7 ⟨rfl, hb⟩
            have F7 := hide ((unhide F5).next hb)
            have L7 := hide (bel_then (unhide L5) hb)
            clear hb
            go_wp2_with fail
            refine (unhide HSP2 _).mono ?_
            rintro e w8 ⟨rfl, hb⟩
            have F8 := hide ((unhide F7).next hb)
            have L8 := hide (bel_then (unhide L7) hb)
            clear hb
            go_wp2_with fail
            refine (unhide HSs _ (unhide F8)).mono ?_
            rintro e w9 ⟨rfl, hb⟩
            have L9 := hide (bel_then (unhide L8) hb)
            clear hb
            go_wp2_with fail
            go_ret
            exact ⟨by simp, unhide L9⟩

set_option maxRecDepth 100000 in
theorem lifted (os : Os) (started : os.Started) (H : Type) (enc : TypeId × Value → H) :
    ReturnsInHanded {} Try.checked os 6 .any (Rows.flippedSpec.pre6 enc Try.prog Try.f6 Rows.flippedRow.domain false) (Rows.flippedSpec.post enc Try.prog Try.f6 false true false false) := by
  refine returnsInHanded_of_change_sized (C := Try.checked) own started (by kernel_rfl) Try.func6
    (ChangeSpec.witness6 (enc := enc) (C := Try.checked) false ⟨#[], #[.slice none 0 0, .int .i64 0, .int .i64 0, .slice none 0 0, .int .i64 0, .int .i64 0, .int .i64 0], []⟩ 8 (by kernel_rfl) (by kernel_rfl) (by kernel_rfl) (by kernel_rfl)) ?_
  intro W base args ds gs before hval0 hW hcnd hsz0 _
  have hval : ∀ (j : Nat) t v, Try.f6.params[j]? = some t → args[j]? = some v → Value.okWide Try.prog W .any base t v := hval0
  have hW' := hW
  obtain ⟨p, q, hA0, hV, rfl, hfz, hnd⟩ := hW
  have hA : DataW.TrodAll enc Try.prog W 0 (fun _ => true) true Try.f6.params.toList args.toList ds p := hA0
  rw [Try.params6] at hA hval
  obtain ⟨v0, vs0, d0, ds0, p0, q0, hargs, rfl, rfl, h0, r0⟩ := trodAll_cons hA
  obtain ⟨v1, vs1, d1, ds1, p1, q1, rfl, rfl, rfl, h1, r1⟩ := trodAll_cons r0
  obtain ⟨v2, vs2, d2, ds2, p2, q2, rfl, rfl, rfl, h2, r2⟩ := trodAll_cons r1
  obtain ⟨v3, vs3, d3, ds3, p3, q3, rfl, rfl, rfl, h3, r3⟩ := trodAll_cons r2
  obtain ⟨v4, vs4, d4, ds4, p4, q4, rfl, rfl, rfl, h4, r4⟩ := trodAll_cons r3
  obtain ⟨v5, vs5, d5, ds5, p5, q5, rfl, rfl, rfl, h5, r5⟩ := trodAll_cons r4
  obtain ⟨v6, vs6, d6, ds6, p6, q6, rfl, rfl, rfl, h6, r6⟩ := trodAll_cons r5
  obtain ⟨rfl, rfl, rfl⟩ := trodAll_nil r6
  obtain rfl : args = #[v0, v1, v2, v3, v4, v5, v6] := by cases args; simp_all
  obtain ⟨rfl, rfl⟩ := trodVars_none hV
  obtain ⟨a0, len0, cap0, rfl⟩ := okWide_slice Try.underlying22 (hval 0 22 v0 rfl rfl)
  obtain ⟨room, rfl⟩ := okWide_int Try.underlying3 (hval 1 3 v1 rfl rfl)
  obtain ⟨period, rfl⟩ := okWide_int Try.underlying3 (hval 2 3 v2 rfl rfl)
  obtain ⟨a3, len3, cap3, rfl⟩ := okWide_slice Try.underlying22 (hval 3 22 v3 rfl rfl)
  obtain ⟨frame, rfl⟩ := okWide_int Try.underlying3 (hval 4 3 v4 rfl rfl)
  obtain ⟨bit, rfl⟩ := okWide_int Try.underlying3 (hval 5 3 v5 rfl rfl)
  obtain ⟨mask, rfl⟩ := okWide_int Try.underlying3 (hval 6 3 v6 rfl rfl)
  have e0 := h0
  have e1 := h1
  have e2 := h2
  have e3 := h3
  have e4 := h4
  have e5 := h5
  have e6 := h6
  have lt0 : ∀ x ∈ p0, x.block < W.heap.size := by obtain ⟨m, hm⟩ := e0; exact DataW.trod_lt m _ _ _ hm
  have lt1 : ∀ x ∈ p1, x.block < W.heap.size := by obtain ⟨m, hm⟩ := e1; exact DataW.trod_lt m _ _ _ hm
  have lt2 : ∀ x ∈ p2, x.block < W.heap.size := by obtain ⟨m, hm⟩ := e2; exact DataW.trod_lt m _ _ _ hm
  have lt3 : ∀ x ∈ p3, x.block < W.heap.size := by obtain ⟨m, hm⟩ := e3; exact DataW.trod_lt m _ _ _ hm
  have lt4 : ∀ x ∈ p4, x.block < W.heap.size := by obtain ⟨m, hm⟩ := e4; exact DataW.trod_lt m _ _ _ hm
  have lt5 : ∀ x ∈ p5, x.block < W.heap.size := by obtain ⟨m, hm⟩ := e5; exact DataW.trod_lt m _ _ _ hm
  have lt6 : ∀ x ∈ p6, x.block < W.heap.size := by obtain ⟨m, hm⟩ := e6; exact DataW.trod_lt m _ _ _ hm
  have hts : Try.f6.params.toList ++ DataSpec.varTypes Try.checked.prog Rows.flippedSpec.plain = [22, 3, 3, 22, 3, 3, 3] := by kernel_rfl
  rw [hts] at hsz0
  have hl0 : len0 < 1000000000000000000 := by
    obtain ⟨fuel, hf⟩ := h0
    exact ints_len (x := (d0, p0)) (j := 0) (by simpa [Value.cells] using hf) rfl rfl hsz0
  have hl3 : len3 < 1000000000000000000 := by
    obtain ⟨fuel, hf⟩ := h3
    exact ints_len (x := (d3, p3)) (j := 3) (by simpa [Value.cells] using hf) rfl rfl hsz0
  obtain ⟨V0, I0⟩ : ∃ V, Ints W a0 len0 V := by
    obtain ⟨fuel, hf⟩ := h0
    exact open_ints (by simpa [Value.cells] using hf)
  have ok1 : i64ok room := by
    obtain ⟨fuel, hf⟩ := h1
    obtain ⟨z, hz, _, hw⟩ := DataW.trod_int Try.underlying3 (by simpa [Value.cells] using hf)
    simp at hz
    subst hz
    exact ok_of_wf hw
  have ok2 : i64ok period := by
    obtain ⟨fuel, hf⟩ := h2
    obtain ⟨z, hz, _, hw⟩ := DataW.trod_int Try.underlying3 (by simpa [Value.cells] using hf)
    simp at hz
    subst hz
    exact ok_of_wf hw
  obtain ⟨V3, I3⟩ : ∃ V, Ints W a3 len3 V := by
    obtain ⟨fuel, hf⟩ := h3
    exact open_ints (by simpa [Value.cells] using hf)
  have ok4 : i64ok frame := by
    obtain ⟨fuel, hf⟩ := h4
    obtain ⟨z, hz, _, hw⟩ := DataW.trod_int Try.underlying3 (by simpa [Value.cells] using hf)
    simp at hz
    subst hz
    exact ok_of_wf hw
  have ok5 : i64ok bit := by
    obtain ⟨fuel, hf⟩ := h5
    obtain ⟨z, hz, _, hw⟩ := DataW.trod_int Try.underlying3 (by simpa [Value.cells] using hf)
    simp at hz
    subst hz
    exact ok_of_wf hw
  have ok6 : i64ok mask := by
    obtain ⟨fuel, hf⟩ := h6
    obtain ⟨z, hz, _, hw⟩ := DataW.trod_int Try.underlying3 (by simpa [Value.cells] using hf)
    simp at hz
    subst hz
    exact ok_of_wf hw
  clear hA0 hval0
  refine (walk a0 len0 cap0 V0 (by omega) room period ok1 ok2 a3 len3 cap3 V3 hl3 frame ok4 bit ok5 mask ok6 W I0 I3).mono fun e W' ⟨he, bel⟩ => ?_
  subst he
  exact ⟨_, rfl, _, _, _, [], _, [], hW', trodAll_mk1 (shut_bool Try.underlying4 _), (trodAll_cons_mk (Below.trod laidOut (by kernel_rfl) (of_decide_eq_true (by kernel_rfl)) e0 bel lt0) (trodAll_cons_mk (Below.trod laidOut (by kernel_rfl) (of_decide_eq_true (by kernel_rfl)) e1 bel lt1) (trodAll_cons_mk (Below.trod laidOut (by kernel_rfl) (of_decide_eq_true (by kernel_rfl)) e2 bel lt2) (trodAll_cons_mk (Below.trod laidOut (by kernel_rfl) (of_decide_eq_true (by kernel_rfl)) e3 bel lt3) (trodAll_cons_mk (Below.trod laidOut (by kernel_rfl) (of_decide_eq_true (by kernel_rfl)) e4 bel lt4) (trodAll_cons_mk (Below.trod laidOut (by kernel_rfl) (of_decide_eq_true (by kernel_rfl)) e5 bel lt5) (trodAll_cons_mk (Below.trod laidOut (by kernel_rfl) (of_decide_eq_true (by kernel_rfl)) e6 bel lt6) trodAll_mk0))))))), rfl, bel.frame _, fun h => by cases h⟩

theorem over : Rows.flippedRow.holds Try.pinned (OpenSpec.ofChange Rows.flippedSpec) :=
  OpenClaim.holds_of_wide 6 Try.f6 rfl rfl rfl rfl rfl rfl rfl ⟨rfl, rfl, rfl, rfl, rfl⟩ rfl rfl rfl rfl rfl (by kernel_rfl) Try.func6 (by kernel_rfl)
    (of_decide_eq_true (by kernel_rfl)) (by unfold Func.isWrapper; first | (rw [if_pos (by decide +kernel)]; kernel_rfl) | (rw [if_neg (by decide +kernel)]; exact ⟨rfl, rfl⟩))
    (fun os started H enc _ => lifted os started H enc)
end FlippedP

theorem flipped_holds : Rows.FlippedSaid := FlippedP.over
#print axioms flipped_holds
end Go.Proofs.Ytcmoffiigpchiaa
