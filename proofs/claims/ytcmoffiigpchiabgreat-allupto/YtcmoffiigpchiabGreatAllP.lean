import Derived.Test.YtcmoffiigpchiabGreatAllB
import Derived.Test.YtcmoffiigpchiabGreatAllD
import Derived.Test.YtcmoffiigpchiabGreatAllE
import Derived.Test.YtcmoffiigpchiabGreatRefS
import Derived.Test.YtcmoffiigpchiabGreatWalkM
import Derived.Test.YtcmoffiigpchiabGreatMadeL
import Derived.Test.YtcmoffiigpchiabGreatStepO
import Derived.JoinedCond
namespace Go.Proofs.YtcmoffiigpchiabGreat
open Go.RowKit

theorem step_own (B k : Nat) (o : OpV) (h5 : 12 ≤ o.kind) (h8 : o.kind ≤ 14) (hbig : k < 2932031007300) (wr : World) (h : WInv B k wr) :
    Calls Tryz.prog 5 #[.pointer (some ⟨B, 0, none⟩), o.val] wr fun e w' => e = .returned (.bool true) ∧ WInv B (k + 1) w' ∧ Below B wr w' := by
  obtain ⟨v, n, P, hW⟩ := h
  rcases hW.row.2 with ⟨hv, hn⟩ | ⟨r, cap, cur, hv, -⟩
  · subst hn
    exact own_bare B k o h5 h8 v P none 0 hv wr hW
  · rcases Nat.eq_zero_or_pos n with hn | hn
    · subst hn
      exact own_bare B k o h5 h8 v P _ cap hv wr hW
    · subst hv
      have hk : o.kind = 12 ∨ o.kind = 13 ∨ o.kind = 14 := by omega
      rcases hk with hk | hk | hk
      · exact step_own12 B k o hk r cap n hn P wr hW (by have := hW.count; omega)
      · exact step_own13 B k o hk r cap n hn P wr hW (by have := hW.count; omega)
      · exact step_own14 B k o hk r cap n hn P wr hW (by have := hW.count; omega)

/-- What touches no machine. -/
theorem winv_below {B k : Nat} {wr w' : World} (h : WInv B k wr) (hb : Below wr.heap.size wr w') : WInv B (k + 1) w' ∧ Below B wr w' := by
  obtain ⟨v, n, P, hW⟩ := h
  exact ⟨⟨v, n, P, (hW.next hb).more⟩, hb.mono (Nat.le_of_lt hW.box.lt)⟩

theorem plays_both (lo hi : Int) (w : World) (a : Option Addr) (len cap : Nat) (O : Nat → OpV) (I : Nat → World → Prop)
    (hS : IsScript w a len O) (hB : ∀ i, i < len → (O i).Small)
    (hstart : I 0 (w.alloc (.cells #[.slice none 0 0] 28)))
    (hmono : ∀ k wr, I k wr → I (k + 1) wr)
    (hstep : ∀ k o wr, k < len → OpV.Ok o → o.Small → lo ≤ o.kind → o.kind ≤ hi → I k wr → Calls Tryz.prog 5 #[.pointer (some ⟨w.heap.size, 0, none⟩), o.val] wr fun e w' => e = .returned (.bool true) ∧ I (k + 1) w' ∧ Below w.heap.size wr w')
    (hends : ∀ wr, I len wr → Calls Tryz.prog 6 #[.pointer (some ⟨w.heap.size, 0, none⟩)] wr fun e w' => e = .returned (.bool true) ∧ Below w.heap.size wr w') :
    Calls Tryz.prog 4 #[.slice a len cap, .int .i64 lo, .int .i64 hi] w fun e w' => e = .returned (.bool true) ∧ Below w.heap.size w w' := by
  rcases hS with rfl | ⟨hl, blk, off, rfl, hS, hO⟩
  · exact plays_none lo hi w a cap (fun wr h => by subst h; exact hends _ hstart)
  · exact plays_num lo hi w blk off len cap O I hS hl hstart hmono (fun i wr hi' h1 h2 hI _ => hstep i (O i) wr hi' (hO i hi') (hB i hi') h1 h2 hI) (fun wr hI _ => hends wr hI)

theorem step_all (B k : Nat) (o : OpV) (ho : o.Ok) (hs : o.Small) (h1 : 1 ≤ o.kind) (h14 : o.kind ≤ 14) (hbig : k < 2932031007300) (wr : World) (h : WInv B k wr) :
    Calls Tryz.prog 5 #[.pointer (some ⟨B, 0, none⟩), o.val] wr fun e w' => e = .returned (.bool true) ∧ WInv B (k + 1) w' ∧ Below B wr w' := by
  have fin : ∀ e w', (e = Ending.returned (.bool true) ∧ Below wr.heap.size wr w') → (e = Ending.returned (.bool true) ∧ WInv B (k + 1) w' ∧ Below B wr w') := fun e w' ⟨h1, h2⟩ => ⟨h1, winv_below h h2⟩
  by_cases k1 : o.kind = 1
  · exact (step_check o ho k1 _ wr).mono fin
  by_cases k2 : o.kind = 2
  · exact (step_one o ho k2 _ wr).mono fin
  by_cases k3 : o.kind = 3
  · exact (step_sum o ho k3 _ wr).mono fin
  by_cases k4 : o.kind = 4
  · exact step_made B k o ho k4 (by omega) wr h
  by_cases k8 : o.kind ≤ 8
  · exact step_mach refSteps B k o (by omega) k8 hbig wr h
  by_cases k9 : o.kind = 9
  · exact (step_span o hs k9 _ wr).mono fin
  by_cases k10 : o.kind = 10
  · exact (step_at o ho hs k10 _ wr).mono fin
  by_cases k11 : o.kind = 11
  · exact (step_changed o ho hs k11 _ wr).mono fin
  · exact step_own B k o (by omega) h14 hbig wr h
end Go.Proofs.YtcmoffiigpchiabGreat

namespace Go.Proofs.YtcmoffiigpchiabGreat
open Go.ChangeShapes Go.WideShapes Go.ChangeAt Go.RowKit
open Go.ChangeMaps (open_string shut_string)
namespace AllP

theorem walk (a0 : Option Addr) (len0 cap0 : Nat) (O : Nat → OpV) (w : World) (w0 : IsScript w a0 len0 O) (hB : ∀ i, i < len0 → (O i).Small) (hlen : len0 < 2932031007300) :
    Calls Tryz.prog 3 #[.slice a0 len0 cap0] w fun e w' => e = .returned (.bool true) ∧ Below w.heap.size w w' := by
  have h := plays_both 1 14 w a0 len0 cap0 O (fun k wr => WInv w.heap.size k wr) w0 hB (winv_start w _) (fun k wr h => winv_more h)
    (fun k o wr hk ho hs h1 h2 hI => step_all w.heap.size k o ho hs h1 h2 (by omega) wr hI)
    (fun wr hI => ends_any w.heap.size len0 hlen wr hI)
  have H := hide h
  clear h w0 hlen hB
  go_enter Tryz.func3, Tryz.ntmps3
  go_wp2_with (go_at_call 4; refine (unhide H).mono ?_; rintro e w' ⟨rfl, hb⟩)
  go_ret
  exact ⟨rfl, hb⟩

set_option maxRecDepth 100000 in
theorem lifted (os : Os) (started : os.Started) (H : Type) (enc : TypeId × Value → H) (F : Stop.Interp) :
    ReturnsInHanded {} Tryz.checked os 3 .any ((Rows.OpenSpec.upto Rows.allSpec).pre6 enc Tryz.prog Tryz.f3 Rows.allUptoRow.domain false) (((Rows.OpenSpec.upto Rows.allSpec).at F).post enc Tryz.prog Tryz.f3 false true false false) := by
  refine returnsInHanded_of_cond (C := Tryz.checked) (s := Rows.OpenSpec.upto Rows.allSpec) (k := Rows.uptoSmall) rfl own started (by kernel_rfl) Tryz.func3
    (OpenSpec.witness (enc := enc) (C := Tryz.checked) (s := Rows.OpenSpec.upto Rows.allSpec) (k := Rows.uptoSmall) rfl false ⟨#[], #[.slice none 0 0], []⟩ 8 (by kernel_rfl) (by kernel_rfl) (by kernel_rfl)
      (x := ([.nil], [], [])) (by kernel_rfl) rfl (by kernel_rfl)) ?_
  intro W base args ds gs before hval0 hW _ hk _
  have hval : ∀ (j : Nat) t v, Tryz.f3.params[j]? = some t → args[j]? = some v → Value.okWide Tryz.prog W .any base t v := hval0
  have hW' := hW
  obtain ⟨p, q, hA0, hV, rfl, hfz, hnd⟩ := hW
  have hA : DataW.TrodAll enc Tryz.prog W 0 (fun _ => true) true Tryz.f3.params.toList args.toList ds p := hA0
  rw [Tryz.params3] at hA hval
  obtain ⟨v0, vs0, d0, ds0, p0, q0, hargs, rfl, rfl, h0, r0⟩ := trodAll_cons hA
  obtain ⟨rfl, rfl, rfl⟩ := trodAll_nil r0
  obtain rfl : args = #[v0] := by cases args; simp_all
  obtain ⟨rfl, rfl⟩ := trodVars_none hV
  obtain ⟨a0, len0, cap0, rfl⟩ := okWide_slice Tryz.underlying22 (hval 0 22 v0 rfl rfl)
  have k0 := h0
  have lt0 : ∀ x ∈ p0, x.block < W.heap.size := by obtain ⟨m, hm⟩ := k0; exact DataW.trod_lt m _ _ _ hm
  have hbulk : Rows.uptoBulk d0 ≤ 1048576 := by
    have h : Rows.uptoBulkAll ([d0] ++ []) ≤ 1048576 := of_decide_eq_true hk
    simp only [List.append_nil, Rows.uptoBulkAll] at h
    omega
  obtain ⟨O, w0, hB⟩ : ∃ O, IsScript W a0 len0 O ∧ ∀ i, i < len0 → (O i).Small := by
    obtain ⟨fuel, hf⟩ := h0
    exact open_small (x := (d0, p0)) (by simpa [Value.cells] using hf) hbulk
  clear hA0 hval0
  have hlen0 : len0 ≤ 1048576 := by
    obtain ⟨fuel, hf⟩ := k0
    exact small_len (x := (d0, p0)) (by simpa [Value.cells] using hf) hbulk
  refine (walk a0 len0 cap0 O W w0 hB (by omega)).mono fun e W' ⟨he, bel⟩ => ?_
  subst he
  exact ⟨_, rfl, _, _, _, [], _, [], hW', trodAll_mk1 (shut_bool Tryz.underlying4 _), (trodAll_cons_mk (Below.trod laidOut (by kernel_rfl) (of_decide_eq_true (by kernel_rfl)) k0 bel lt0) trodAll_mk0), rfl, bel.frame _, fun h => by cases h⟩

theorem over : Rows.AllUptoSaid :=
  OpenClaim.holds_of_cond 3 Tryz.f3 rfl rfl rfl rfl rfl rfl rfl ⟨rfl, rfl, rfl, rfl, rfl⟩ rfl rfl rfl rfl rfl (by kernel_rfl) Tryz.func3 (by kernel_rfl)
    (of_decide_eq_true (by kernel_rfl)) (by unfold Func.isWrapper; first | (rw [if_pos (by decide +kernel)]; kernel_rfl) | (rw [if_neg (by decide +kernel)]; exact ⟨rfl, rfl⟩))
    (fun os started H enc _ F => lifted os started H enc F)
end AllP

theorem allupto_holds : Rows.AllUptoSaid := AllP.over
#print axioms allupto_holds
end Go.Proofs.YtcmoffiigpchiabGreat
