import Derived.Test.YtcmoffiigpchiaaGreatLiftU
import Derived.Test.YtcmoffiigpchiaaGreatWalkM
import Derived.Test.YtcmoffiigpchiaaGreatMadeL
import Derived.Test.YtcmoffiigpchiaaGreatRefS
import Derived.SizedLaws
namespace Go.Proofs.YtcmoffiigpchiaaGreat
open Go.ChangeShapes Go.WideShapes Go.ChangeAt Go.RowKit
open Go.ChangeMaps (open_string shut_string)
namespace RecordsP

theorem walk (a0 : Option Addr) (len0 cap0 : Nat) (O : Nat → OpV) (w : World) (w0 : IsScript w a0 len0 O) (hlen : len0 < 2932031007300) :
    Calls Tryz.prog 6 #[.slice a0 len0 cap0] w fun e w' => e = .returned (.bool true) ∧ Below w.heap.size w w' := by
  have h := plays_nums 4 8 w a0 len0 cap0 O (fun k wr => WInv w.heap.size k wr) w0 (winv_start w _) (fun k wr h => winv_more h)
    (fun k o wr hk ho h1 h2 hI => by
      by_cases h4 : o.kind = 4
      · exact step_made w.heap.size k o ho h4 (by omega) wr hI
      · exact step_mach refSteps w.heap.size k o (by omega) h2 (by omega) wr hI)
    (fun wr hI => ends_any w.heap.size len0 hlen wr hI)
  have H := hide h
  clear h w0 hlen
  go_enter Tryz.func6, Tryz.ntmps6
  go_wp2_with (go_at_call 10; refine (unhide H).mono ?_; rintro e w' ⟨rfl, hb⟩)
  go_ret
  exact ⟨rfl, hb⟩

theorem bytesOp : Tryz.prog.bytesOf 34 = 168 := by kernel_rfl
theorem script_len {H : Type} {enc : TypeId × Value → H} {w : World} {base : Nat} {spare : Nat → Bool} {held : Bool} {fuel : Nat} {a : Option Addr} {len cap : Nat} {x : DataW H × List MemPlace} (h : DataW.trod enc Tryz.prog w base spare held fuel 22 [.slice a len cap] = some x)
    (hs : (DataW.weightsEach Tryz.prog [22] [x.1]).all (· ≤ reachBytes) = true) : len < 2932031007300 := by
  rcases Deep.open_slice Tryz.underlying22 h with ⟨hcs, _⟩ | ⟨a', len', cap', m, n, D, Pl, hcs, hb, hl, hm, hmm, hx, _⟩
  · simp at hcs
    omega
  · simp at hcs
    obtain ⟨rfl, rfl, rfl⟩ := hcs
    subst hx
    have := sized_slice hs (j := 0) (t := 22) (e := 34) rfl rfl Tryz.underlying22
    rw [bytesOp] at this
    simp [reachBytes] at this
    omega

set_option maxRecDepth 100000 in
theorem lifted (os : Os) (started : os.Started) (H : Type) (enc : TypeId × Value → H) :
    ReturnsInHanded {} Tryz.checked os 6 .any (Rows.recordsSpec.pre6 enc Tryz.prog Tryz.f6 Rows.recordsRow.domain false) (Rows.recordsSpec.post enc Tryz.prog Tryz.f6 false true false false) := by
  refine returnsInHanded_of_change_sized (C := Tryz.checked) own started (by kernel_rfl) Tryz.func6
    (ChangeSpec.witness6 (enc := enc) (C := Tryz.checked) false ⟨#[], #[.slice none 0 0], []⟩ 8 (by kernel_rfl) (by kernel_rfl) (by kernel_rfl) (by kernel_rfl)) ?_
  intro W base args ds gs before hval0 hW hcnd hsz0 _
  have hval : ∀ (j : Nat) t v, Tryz.f6.params[j]? = some t → args[j]? = some v → Value.okWide Tryz.prog W .any base t v := hval0
  have hW' := hW
  obtain ⟨p, q, hA0, hV, rfl, hfz, hnd⟩ := hW
  have hA : DataW.TrodAll enc Tryz.prog W 0 (fun _ => true) true Tryz.f6.params.toList args.toList ds p := hA0
  rw [Tryz.params6] at hA hval
  obtain ⟨v0, vs0, d0, ds0, p0, q0, hargs, rfl, rfl, h0, r0⟩ := trodAll_cons hA
  obtain ⟨rfl, rfl, rfl⟩ := trodAll_nil r0
  obtain rfl : args = #[v0] := by cases args; simp_all
  obtain ⟨rfl, rfl⟩ := trodVars_none hV
  obtain ⟨a0, len0, cap0, rfl⟩ := okWide_slice Tryz.underlying22 (hval 0 22 v0 rfl rfl)
  have k0 := h0
  have lt0 : ∀ x ∈ p0, x.block < W.heap.size := by obtain ⟨m, hm⟩ := k0; exact DataW.trod_lt m _ _ _ hm
  have hlen : len0 < 2932031007300 := by
    obtain ⟨fuel, hf⟩ := h0
    have hts : Tryz.f6.params.toList ++ DataSpec.varTypes Tryz.checked.prog Rows.recordsSpec.plain = [22] := by kernel_rfl
    rw [hts] at hsz0
    exact script_len (x := (d0, p0)) (by simpa [Value.cells] using hf) hsz0
  obtain ⟨O, w0⟩ : ∃ O, IsScript W a0 len0 O := by
    obtain ⟨fuel, hf⟩ := h0
    exact open_script (by simpa [Value.cells] using hf)
  clear hA0 hval0
  refine (walk a0 len0 cap0 O W w0 hlen).mono fun e W' ⟨he, bel⟩ => ?_
  subst he
  exact ⟨_, rfl, _, _, _, [], _, [], hW', trodAll_mk1 (shut_bool Tryz.underlying4 _), (trodAll_cons_mk (Below.trod laidOut (by kernel_rfl) (of_decide_eq_true (by kernel_rfl)) k0 bel lt0) trodAll_mk0), rfl, bel.frame _, fun h => by cases h⟩

theorem over : Rows.recordsRow.holds Tryz.pinned (OpenSpec.ofChange Rows.recordsSpec) :=
  OpenClaim.holds_of_wide 6 Tryz.f6 rfl rfl rfl rfl rfl rfl rfl ⟨rfl, rfl, rfl, rfl, rfl⟩ rfl rfl rfl rfl rfl (by kernel_rfl) Tryz.func6 (by kernel_rfl)
    (of_decide_eq_true (by kernel_rfl)) (by unfold Func.isWrapper; first | (rw [if_pos (by decide +kernel)]; kernel_rfl) | (rw [if_neg (by decide +kernel)]; exact ⟨rfl, rfl⟩))
    (fun os started H enc _ => lifted os started H enc)
end RecordsP

theorem records_holds : Rows.RecordsSaid := RecordsP.over
#print axioms records_holds
end Go.Proofs.YtcmoffiigpchiaaGreat
