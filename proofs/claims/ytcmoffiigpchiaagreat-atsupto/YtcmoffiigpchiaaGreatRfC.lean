import Derived.Test.YtcmoffiigpchiaaGreatRfA
import Derived.Test.YtcmoffiigpchiaaGreatRdE
import Derived.Test.YtcmoffiigpchiaaGreatOfW
namespace Go.Proofs.YtcmoffiigpchiaaGreat
open Go.RowKit

set_option maxRecDepth 100000 in
set_option maxHeartbeats 4000000 in
theorem choice_ref (t : ByteArray) (ht : t.size = 40) (w : World) :
    Calls Tryz.prog 113 #[.string t] w fun e w' => e = .returned (.tuple #[.int .i64 (Hist.nOf t : Nat), (Hist.chOf t).val, .bool (Hist.okE t)]) ∧ Below w.heap.size w w' := by
  have hf9 := Code.byt_eq t 9 (by omega)
  have hf7 := Code.byt_eq t 7 (by omega)
  have hf8 := Code.byt_eq t 8 (by omega)
  have hl7 := Code.byt_lt t 7
  have hl8 := Code.byt_lt t 8
  have hl9 := Code.byt_lt t 9
  have H1 := hide (high_ref (t.extract 3 7) (by rw [size_ex t (by omega)]; omega))
  have H3 := hide (high_ref (t.extract 1 3) (by rw [size_ex t (by omega)]; omega))
  rw [show Frame.highN (t.extract 3 7) = Hist.nOf t from rfl] at H1
  rw [show Frame.highN (t.extract 1 3) = Hist.numOf t from rfl] at H3
  have hv7 : IntKind.i64.wrap ((Code.byt t 7 : Nat) : Int) = ((Code.byt t 7 : Nat) : Int) := i64_wrap_nat _ (by omega)
  have hv8 : IntKind.i64.wrap ((Code.byt t 8 : Nat) : Int) = ((Code.byt t 8 : Nat) : Int) := i64_wrap_nat _ (by omega)
  have HO := hide (ofChoice_any (Hist.numOf t) (Hist.numOf_lt ht) (Hist.nOf t) (Hist.nOf_lt ht) (Hist.chOf t) (Hist.chOf_chosen t))
  have HK := hide (Hist.okE_not ht)
  have hdn : decide (Hist.nOf t < 10000) = decide (((Hist.nOf t : Nat) : Int) < 10000) := decide_eq_decide.2 (by omega)
  rw [hdn] at HK
  clear hdn
  have hst : (Hist.chOf t).val = .agg #[.int .i64 (Code.byt t 7 : Nat), .int .i64 (Code.byt t 8 : Nat), .bool (((Code.byt t 9 : Nat) : Int) == 1)] := by rw [← beq_one]; rfl
  rw [hst] at HO ⊢
  clear hst
  generalize Frame.ofChoice (Hist.numOf t) (Hist.nOf t) (Hist.chOf t) = fo at *
  generalize Hist.okE t = okc at *
  generalize ((Hist.nOf t : Nat) : Int) = nn at *
  go_enter Tryz.func113, Tryz.ntmps113
  go_upto_region 2 with (go_at_call 87; refine (unhide H1 _).mono ?_; rintro e w2 ⟨rfl, hw⟩; obtain rfl := hw.symm)
  have X0 := hide (Box.new w #[.int .i64 0, .int .i64 0, .bool false] 32)
  have B0 := hide ((Below.refl w.heap.size w).alloc (Nat.le_refl _) (.cells #[.int .i64 0, .int .i64 0, .bool false] 32))
  have hz : (w.alloc (.cells #[.int .i64 0, .int .i64 0, .bool false] 32)).heap.size = w.heap.size + 1 := by simp
  generalize w.alloc (.cells #[.int .i64 0, .int .i64 0, .bool false] 32) = wy at *
  obtain ⟨cx, fx, gx⟩ := unhide X0
  go_cut [6] (fun x4 wx => x4 = .pointer (some ⟨w.heap.size + 1, 0, none⟩) ∧ Box wx (w.heap.size + 1) #[.int .i64 (Code.byt t 7 : Nat), .int .i64 (Code.byt t 8 : Nat), .bool (((Code.byt t 9 : Nat) : Int) == 1)] ∧ Box wx w.heap.size #[.int .i64 0, .int .i64 0, .bool false] ∧ Below w.heap.size w wx)
  case first =>
    refine region_last2 11 (S := (fun _ => True)) _ rfl rfl (by kernel_rfl) (by kernel_rfl) (by trivial) (fun hHeld => ?_)
    simp only [List.pop_toArray, List.dropLast_cons_cons, List.dropLast_singleton]
    refine wpAnyH_take (i := 0) (v := ?_) rfl (by kernel_rfl) (by kernel_rfl) (by kernel_rfl) (fun _ _ _ h => h) (Or.inl ⟨by rfl, ?hy⟩) hHeld ?_
    case hy =>
      simp only [List.getElem_toArray, List.getElem_cons_zero]
      intro w' hSw
      (try dsimp only at hSw)
      go_simp
      with_reducible rfl
    simp only [List.getElem_toArray, List.getElem_cons_zero, Act.put, List.setIfInBounds_toArray, List.set_cons_zero, List.set_cons_succ]
    refine wpAnyH_take (i := 1) (v := ?_) rfl (by kernel_rfl) (by kernel_rfl) (by kernel_rfl) (fun _ _ _ h => h) (Or.inl ⟨by rfl, ?hy⟩) hHeld ?_
    case hy =>
      simp only [List.getElem_toArray, List.getElem_cons_succ, List.getElem_cons_zero]
      intro w' hSw
      (try dsimp only at hSw)
      go_simp
      with_reducible rfl
    simp only [List.getElem_toArray, List.getElem_cons_succ, List.getElem_cons_zero, Act.put, List.setIfInBounds_toArray, List.set_cons_zero, List.set_cons_succ]
    refine wpAnyH_take (i := 2) (v := ?_) rfl (by kernel_rfl) (by kernel_rfl) (by kernel_rfl) (fun _ _ _ h => h) (Or.inl ⟨by rfl, ?hy⟩) hHeld ?_
    case hy =>
      simp only [List.getElem_toArray, List.getElem_cons_succ, List.getElem_cons_zero]
      intro w' hSw
      (try dsimp only at hSw)
      go_simp
      with_reducible rfl
    simp only [List.getElem_toArray, List.getElem_cons_succ, List.getElem_cons_zero, Act.put, List.setIfInBounds_toArray, List.set_cons_zero, List.set_cons_succ]
    refine wpAnyH_take (i := 3) (v := ?_) rfl (by kernel_rfl) (by kernel_rfl) (by kernel_rfl) (fun _ _ _ h => h) (Or.inl ⟨by rfl, ?hy⟩) hHeld ?_
    case hy =>
      simp only [List.getElem_toArray, List.getElem_cons_succ, List.getElem_cons_zero]
      intro w' hSw
      (try dsimp only at hSw)
      go_simp
      with_reducible rfl
    simp only [List.getElem_toArray, List.getElem_cons_succ, List.getElem_cons_zero, Act.put, List.setIfInBounds_toArray, List.set_cons_zero, List.set_cons_succ]
    refine wpAnyH_take (i := 4) (v := ?_) rfl (by kernel_rfl) (by kernel_rfl) (by kernel_rfl) (fun _ _ _ h => h) (Or.inl ⟨by rfl, ?hy⟩) hHeld ?_
    case hy =>
      simp only [List.getElem_toArray, List.getElem_cons_succ, List.getElem_cons_zero]
      intro w' hSw
      (try dsimp only at hSw)
      go_simp
      with_reducible rfl
    simp only [List.getElem_toArray, List.getElem_cons_succ, List.getElem_cons_zero, Act.put, List.setIfInBounds_toArray, List.set_cons_zero, List.set_cons_succ]
    refine wpAnyH_take (i := 5) (v := ?_) rfl (by kernel_rfl) (by kernel_rfl) (by kernel_rfl) (fun _ _ _ h => h) (Or.inl ⟨by rfl, ?hy⟩) hHeld ?_
    case hy =>
      simp only [List.getElem_toArray, List.getElem_cons_succ, List.getElem_cons_zero]
      intro w' hSw
      (try dsimp only at hSw)
      go_simp
      with_reducible rfl
    simp only [List.getElem_toArray, List.getElem_cons_succ, List.getElem_cons_zero, Act.put, List.setIfInBounds_toArray, List.set_cons_zero, List.set_cons_succ]
    refine wpAnyH_take (i := 6) (v := ?_) rfl (by kernel_rfl) (by kernel_rfl) (by kernel_rfl) (fun _ _ _ h => h) (Or.inl ⟨by rfl, ?hy⟩) hHeld ?_
    case hy =>
      simp only [List.getElem_toArray, List.getElem_cons_succ, List.getElem_cons_zero]
      intro w' hSw
      (try dsimp only at hSw)
      go_simp
      with_reducible rfl
    simp only [List.getElem_toArray, List.getElem_cons_succ, List.getElem_cons_zero, Act.put, List.setIfInBounds_toArray, List.set_cons_zero, List.set_cons_succ]
    refine wpAnyH_take (i := 7) (v := ?_) rfl (by kernel_rfl) (by kernel_rfl) (by kernel_rfl) (fun _ _ _ h => h) (Or.inl ⟨by rfl, ?hy⟩) hHeld ?_
    case hy =>
      simp only [List.getElem_toArray, List.getElem_cons_succ, List.getElem_cons_zero]
      intro w' hSw
      (try dsimp only at hSw)
      go_simp
      with_reducible rfl
    simp only [List.getElem_toArray, List.getElem_cons_succ, List.getElem_cons_zero, Act.put, List.setIfInBounds_toArray, List.set_cons_zero, List.set_cons_succ]
    refine wpAnyH_take (i := 8) (v := ?_) rfl (by kernel_rfl) (by kernel_rfl) (by kernel_rfl) (fun _ _ _ h => h) (Or.inl ⟨by rfl, ?hy⟩) hHeld ?_
    case hy =>
      simp only [List.getElem_toArray, List.getElem_cons_succ, List.getElem_cons_zero]
      intro w' hSw
      (try dsimp only at hSw)
      go_simp
      with_reducible rfl
    simp only [List.getElem_toArray, List.getElem_cons_succ, List.getElem_cons_zero, Act.put, List.setIfInBounds_toArray, List.set_cons_zero, List.set_cons_succ]
    refine wpAnyH_take (i := 9) (v := ?_) rfl (by kernel_rfl) (by kernel_rfl) (by kernel_rfl) (fun _ _ _ h => h) (Or.inl ⟨by rfl, ?hy⟩) hHeld ?_
    case hy =>
      simp only [List.getElem_toArray, List.getElem_cons_succ, List.getElem_cons_zero]
      intro w' hSw
      (try dsimp only at hSw)
      go_simp
      with_reducible rfl
    simp only [List.getElem_toArray, List.getElem_cons_succ, List.getElem_cons_zero, Act.put, List.setIfInBounds_toArray, List.set_cons_zero, List.set_cons_succ]
    refine wpAnyH_ready (rs := [10]) (by kernel_rfl) (by simp) ?_
    refine AllReadyH.cons rfl (fun K hK => ?_) AllReadyH.nil
    simp only [List.getElem_toArray, List.getElem_cons_succ, List.getElem_cons_zero]
    go_simp
    refine hK.out _ _ (by trivial) (fun hH1 => ?_)
    clear hK K
    refine wpAnyH_done (by kernel_rfl) ?_ _
    refine last_step rfl (fun K hK => ?_)
    go_simp
    refine (unhide hK) _ _ ?_
    clear hK K
    go_wp2_with fail
    go_meet
    case rel =>
      have Z := (Box.new wy #[.int .i64 (Code.byt t 7 : Nat), .int .i64 (Code.byt t 8 : Nat), .bool (((Code.byt t 9 : Nat) : Int) == 1)] 32).drew
      rw [hz] at Z
      exact ⟨rfl, Z, ((unhide X0).alloc _).drew, Below.drew ((unhide B0).alloc (by omega) _)⟩
  case rest =>
    obtain ⟨rfl, x1, y1, b1⟩ := hcut
    have X3 := hide x1
    have Y3 := hide y1
    have B3 := hide b1
    clear x1 y1 b1 cx fx gx hz X0 B0
    generalize hbi : (((Code.byt t 9 : Nat) : Int) == 1) = bi at *
    have HBI := hide hbi
    clear hbi
    obtain ⟨cx, fx, gx⟩ := unhide X3
    clear gx
    go_upto_region 3 with fail
    go_cut [7] (fun x7 wx => x7 = .bool (decide (fo = t)) ∧ Box wx (w.heap.size + 1) #[.int .i64 (Code.byt t 7 : Nat), .int .i64 (Code.byt t 8 : Nat), .bool bi] ∧ Box wx w.heap.size #[.int .i64 0, .int .i64 0, .bool false] ∧ Below w.heap.size w wx)
    case first =>
      go_region_held3 (fun u => u.cell? ⟨w.heap.size + 1, 0, none⟩ = some (.int .i64 (Code.byt t 7 : Nat)) ∧ u.cell? ⟨w.heap.size + 1, 1, none⟩ = some (.int .i64 (Code.byt t 8 : Nat)) ∧ u.cell? ⟨w.heap.size + 1, 2, none⟩ = some (.bool bi)) (first | go_keep | (go_simp; done)) (first | (go_at_call 87; refine (unhide H3 _).mono ?_; rintro e w4 ⟨rfl, hw⟩; obtain rfl := hw.symm) | (go_at_call 68; refine (unhide HO _).mono ?_; rintro e w4 ⟨rfl, hb⟩; have L4 := hide (bel_undrew hb); clear hb; have X4 := hide ((unhide X3).next (unhide L4)); obtain ⟨cx4, fx4, gx4⟩ := unhide X4; clear gx4))
      all_goals
        go_wp2_with fail
        go_meet
        case rel => exact ⟨congrArg Value.bool (bytes_beq fo t), unhide X4, (unhide Y3).next (unhide L4), (unhide B3).trans ((unhide L4).mono (unhide B3).size)⟩
    case rest =>
      obtain ⟨rfl, x1, y1, b1⟩ := hcut
      have X5 := hide x1
      have Y5 := hide y1
      have B5 := hide b1
      clear x1 y1 b1 cx fx X3 Y3 B3
      obtain ⟨cx, fx, gx⟩ := unhide X5
      obtain ⟨cy, fy, gy⟩ := unhide Y5
      clear gx gy
      have hkk := unhide HK
      generalize decide (fo = t) = sm at *
      go_upto_region 4 with fail
      go_cut [2, 4] (fun x2 x4 wx => x2 = .int .i64 nn ∧ x4 = .bool okc ∧ Box wx w.heap.size #[.int .i64 (Code.byt t 7 : Nat), .int .i64 (Code.byt t 8 : Nat), .bool bi] ∧ Below w.heap.size w wx)
      case first =>
        cases sm with
        | false =>
          have hk : okc = false := by simpa using hkk.symm
          subst hk
          refine region_last2 9 (S := (fun u => u.cell? ⟨w.heap.size + 1, 0, none⟩ = some (.int .i64 (Code.byt t 7 : Nat)) ∧ u.cell? ⟨w.heap.size + 1, 1, none⟩ = some (.int .i64 (Code.byt t 8 : Nat)) ∧ u.cell? ⟨w.heap.size + 1, 2, none⟩ = some (.bool bi))) _ rfl rfl (by kernel_rfl) (by kernel_rfl) (by first | go_keep | (go_simp; done)) (fun hHeld => ?_)
          simp only [List.pop_toArray, List.dropLast_cons_cons, List.dropLast_singleton]
          refine wpAnyH_take (i := 0) (v := ?_) rfl (by kernel_rfl) (by kernel_rfl) (by kernel_rfl) (fun _ _ _ h => h) (Or.inl ⟨by rfl, ?hy⟩) hHeld ?_
          case hy =>
            simp only [List.getElem_toArray, List.getElem_cons_zero]
            intro w' hSw
            (try dsimp only at hSw)
            go_simp
            with_reducible rfl
          simp only [List.getElem_toArray, List.getElem_cons_zero, Act.put, List.setIfInBounds_toArray, List.set_cons_zero, List.set_cons_succ]
          refine wpAnyH_take (i := 1) (v := ?_) rfl (by kernel_rfl) (by kernel_rfl) (by kernel_rfl) (fun _ _ _ h => h) (Or.inl ⟨by rfl, ?hy⟩) hHeld ?_
          case hy =>
            simp only [List.getElem_toArray, List.getElem_cons_succ, List.getElem_cons_zero]
            intro w' hSw
            (try dsimp only at hSw)
            go_simp
            with_reducible rfl
          simp only [List.getElem_toArray, List.getElem_cons_succ, List.getElem_cons_zero, Act.put, List.setIfInBounds_toArray, List.set_cons_zero, List.set_cons_succ]
          refine wpAnyH_take (i := 2) (v := ?_) rfl (by kernel_rfl) (by kernel_rfl) (by kernel_rfl) (fun _ _ _ h => h) (Or.inl ⟨by rfl, ?hy⟩) hHeld ?_
          case hy =>
            simp only [List.getElem_toArray, List.getElem_cons_succ, List.getElem_cons_zero]
            intro w' hSw
            (try dsimp only at hSw)
            go_simp
            with_reducible rfl
          simp only [List.getElem_toArray, List.getElem_cons_succ, List.getElem_cons_zero, Act.put, List.setIfInBounds_toArray, List.set_cons_zero, List.set_cons_succ]
          refine wpAnyH_take (i := 3) (v := ?_) rfl (by kernel_rfl) (by kernel_rfl) (by kernel_rfl) (fun _ _ _ h => h) (Or.inl ⟨by rfl, ?hy⟩) hHeld ?_
          case hy =>
            simp only [List.getElem_toArray, List.getElem_cons_succ, List.getElem_cons_zero]
            intro w' hSw
            (try dsimp only at hSw)
            go_simp
            with_reducible rfl
          simp only [List.getElem_toArray, List.getElem_cons_succ, List.getElem_cons_zero, Act.put, List.setIfInBounds_toArray, List.set_cons_zero, List.set_cons_succ]
          refine wpAnyH_take (i := 4) (v := undef) rfl (by kernel_rfl) (by kernel_rfl) (by kernel_rfl) (fun _ _ _ h => h) (Or.inr ⟨by rfl, rfl⟩) hHeld ?_
          simp only [List.getElem_toArray, List.getElem_cons_succ, List.getElem_cons_zero, Act.put, List.setIfInBounds_toArray, List.set_cons_zero, List.set_cons_succ]
          refine wpAnyH_take (i := 5) (v := undef) rfl (by kernel_rfl) (by kernel_rfl) (by kernel_rfl) (fun _ _ _ h => h) (Or.inr ⟨by rfl, rfl⟩) hHeld ?_
          simp only [List.getElem_toArray, List.getElem_cons_succ, List.getElem_cons_zero, Act.put, List.setIfInBounds_toArray, List.set_cons_zero, List.set_cons_succ]
          refine wpAnyH_take (i := 6) (v := ?_) rfl (by kernel_rfl) (by kernel_rfl) (by kernel_rfl) (fun _ _ _ h => h) (Or.inl ⟨by rfl, ?hy⟩) hHeld ?_
          case hy =>
            simp only [List.getElem_toArray, List.getElem_cons_succ, List.getElem_cons_zero]
            intro w' hSw
            (try dsimp only at hSw)
            go_simp
            with_reducible rfl
          simp only [List.getElem_toArray, List.getElem_cons_succ, List.getElem_cons_zero, Act.put, List.setIfInBounds_toArray, List.set_cons_zero, List.set_cons_succ]
          refine wpAnyH_take (i := 7) (v := ?_) rfl (by kernel_rfl) (by kernel_rfl) (by kernel_rfl) (fun _ _ _ h => h) (Or.inl ⟨by rfl, ?hy⟩) hHeld ?_
          case hy =>
            simp only [List.getElem_toArray, List.getElem_cons_succ, List.getElem_cons_zero]
            intro w' hSw
            (try dsimp only at hSw)
            go_simp
            with_reducible rfl
          simp only [List.getElem_toArray, List.getElem_cons_succ, List.getElem_cons_zero, Act.put, List.setIfInBounds_toArray, List.set_cons_zero, List.set_cons_succ]
          refine wpAnyH_ready (rs := [8]) (by kernel_rfl) (by simp) ?_
          refine AllReadyH.cons rfl (fun K hK => ?_) AllReadyH.nil
          simp only [List.getElem_toArray, List.getElem_cons_succ, List.getElem_cons_zero]
          go_simp
          refine hK.out _ _ (by first | go_keep | (go_simp; done)) (fun hH1 => ?_)
          clear hK K
          refine wpAnyH_done (by kernel_rfl) ?_ _
          refine last_step rfl (fun K hK => ?_)
          go_simp
          refine (unhide hK) _ _ ?_
          clear hK K
          go_wp2_with fail
          go_meet
          case rel =>
            refine ⟨rfl, rfl, ((unhide Y5).put3 _ _ _).drew, Below.drew ?_⟩
            repeat (refine Below.setCell ?_ (by simp) _)
            exact unhide B5
        | true =>
          have hk : okc = decide (nn < 10000) := by simpa using hkk.symm
          subst hk
          go_region_held3 (fun u => u.cell? ⟨w.heap.size + 1, 0, none⟩ = some (.int .i64 (Code.byt t 7 : Nat)) ∧ u.cell? ⟨w.heap.size + 1, 1, none⟩ = some (.int .i64 (Code.byt t 8 : Nat)) ∧ u.cell? ⟨w.heap.size + 1, 2, none⟩ = some (.bool bi)) (first | go_keep | (go_simp; done)) (fail)
          all_goals
            go_wp2_with fail
            go_meet
            case rel =>
              refine ⟨rfl, rfl, ((unhide Y5).put3 _ _ _).drew, Below.drew ?_⟩
              repeat (refine Below.setCell ?_ (by simp) _)
              exact unhide B5
      case rest =>
        obtain ⟨rfl, rfl, y2, b2⟩ := hcut
        have B6 := hide b2
        clear cx fx cy fy b2
        obtain ⟨cz, fz, gz⟩ := y2
        go_wp2_with fail
        refine bodyPost_ret (v := .tuple #[.int .i64 nn, .agg #[.int .i64 (Code.byt t 7 : Nat), .int .i64 (Code.byt t 8 : Nat), .bool bi], .bool okc]) (by simp [results, Tryz.results113, go_sem, cz]) rfl ⟨by rw [unhide HBI], unhide B6⟩
end Go.Proofs.YtcmoffiigpchiaaGreat

namespace Go.Proofs.YtcmoffiigpchiaaGreat
open Go.RowKit

theorem putE_arr (a0 a1 a2 a3 a4 a5 a6 a7 a8 a9 a10 a11 a12 a13 v0 v1 v2 v3 v4 v5 v6 v7 v8 v9 v10 v11 v12 v13 : Value) : ((((((((((((((#[a0, a1, a2, a3, a4, a5, a6, a7, a8, a9, a10, a11, a12, a13].setIfInBounds 0 v0).setIfInBounds 1 v1).setIfInBounds 2 v2).setIfInBounds 3 v3).setIfInBounds 4 v4).setIfInBounds 5 v5).setIfInBounds 6 v6).setIfInBounds 7 v7).setIfInBounds 8 v8).setIfInBounds 9 v9).setIfInBounds 10 v10).setIfInBounds 11 v11).setIfInBounds 12 v12).setIfInBounds 13 v13) = #[v0, v1, v2, v3, v4, v5, v6, v7, v8, v9, v10, v11, v12, v13] := by simp
theorem Box.putE {w : World} {b : Nat} {a0 a1 a2 a3 a4 a5 a6 a7 a8 a9 a10 a11 a12 a13 : Value} (h : Box w b #[a0, a1, a2, a3, a4, a5, a6, a7, a8, a9, a10, a11, a12, a13]) (v0 v1 v2 v3 v4 v5 v6 v7 v8 v9 v10 v11 v12 v13 : Value) :
    Box ((((((((((((((w.setCell ⟨b, 0, none⟩ v0).setCell ⟨b, 1, none⟩ v1).setCell ⟨b, 2, none⟩ v2).setCell ⟨b, 3, none⟩ v3).setCell ⟨b, 4, none⟩ v4).setCell ⟨b, 5, none⟩ v5).setCell ⟨b, 6, none⟩ v6).setCell ⟨b, 7, none⟩ v7).setCell ⟨b, 8, none⟩ v8).setCell ⟨b, 9, none⟩ v9).setCell ⟨b, 10, none⟩ v10).setCell ⟨b, 11, none⟩ v11).setCell ⟨b, 12, none⟩ v12).setCell ⟨b, 13, none⟩ v13) b #[v0, v1, v2, v3, v4, v5, v6, v7, v8, v9, v10, v11, v12, v13] := by
  rw [← putE_arr a0 a1 a2 a3 a4 a5 a6 a7 a8 a9 a10 a11 a12 a13 v0 v1 v2 v3 v4 v5 v6 v7 v8 v9 v10 v11 v12 v13]
  exact ((((((((((((((h.set 0 v0 (by simp)).set 1 v1 (by simp)).set 2 v2 (by simp)).set 3 v3 (by simp)).set 4 v4 (by simp)).set 5 v5 (by simp)).set 6 v6 (by simp)).set 7 v7 (by simp)).set 8 v8 (by simp)).set 9 v9 (by simp)).set 10 v10 (by simp)).set 11 v11 (by simp)).set 12 v12 (by simp)).set 13 v13 (by simp))

/-- What the document makes of a frame, whether it can be written or not. -/
def Hist.rawE (t : ByteArray) : Hist.En := if Code.byt t 0 = 67 then Hist.enC t else Hist.enE t
theorem Hist.rawE_read (t : ByteArray) {e : Hist.En} (h : Hist.read t = some e) : e = Hist.rawE t := by
  unfold Hist.rawE
  by_cases h0 : Code.byt t 0 = 67
  · rw [Hist.read_C h0] at h
    split at h
    · cases h; rw [if_pos h0]
    · cases h
  · rw [Hist.read_E h0] at h
    split at h
    · cases h; rw [if_neg h0]
    · cases h

set_option maxRecDepth 100000 in
set_option maxHeartbeats 4000000 in
theorem entry_c (t : ByteArray) (ht : t.size = 40) (h0 : Code.byt t 0 = 67) (w : World) :
    Calls Tryz.prog 86 #[.string t] w fun e w' => e = .returned (.tuple #[(Hist.enC t).eval, .bool (Hist.okC t)]) ∧ Below w.heap.size w w' := by
  have hf0 := Code.byt_eq t 0 (by omega)
  have f0c : ((Code.byt t 0 : Nat) : Int) = 67 := by omega
  have HS := hide (state_ref t ht)
  have hv : (Hist.enC t).eval = ev true (Hist.stOf t).n (Hist.stOf t) Hist.noCh := rfl
  rw [hv]
  clear hv
  generalize Hist.stOf t = s at *
  generalize Hist.okC t = okc at *
  obtain ⟨sn, pc, regs, cells, clock, handler, back, pending, halted⟩ := s
  go_enter Tryz.func86, Tryz.ntmps86
  go_wp2_with fail
  refine (unhide HS _).mono ?_
  rintro e w1 ⟨rfl, hb⟩
  have Y1 := hide ((Box.new w #[.bool false, .int .i64 0, .int .i64 0, .int .i64 0, .string ⟨#[]⟩, .string ⟨#[]⟩, .int .i64 0, .int .i64 0, .int .i64 0, .bool false, .bool false, .int .i64 0, .int .i64 0, .bool false] 87).next hb)
  have B1 := hide (bel_alloc hb)
  clear hb HS
  obtain ⟨cy, fy, gy⟩ := unhide Y1
  have hne : ¬ w1.heap.size = w.heap.size := by omega
  have hne2 : ¬ w.heap.size = w1.heap.size := by omega
  go_upto_region 3 with fail
  have X2 := hide (Box.new w1 #[.int .i64 sn, .int .i64 pc, .string regs, .string cells, .int .i64 clock, .int .i64 handler, .int .i64 back, .bool pending, .bool halted] 30)
  have Y2 := hide ((unhide Y1).alloc (.cells #[.int .i64 sn, .int .i64 pc, .string regs, .string cells, .int .i64 clock, .int .i64 handler, .int .i64 back, .bool pending, .bool halted] 30))
  have B2 := hide ((unhide B1).alloc (by omega) (.cells #[.int .i64 sn, .int .i64 pc, .string regs, .string cells, .int .i64 clock, .int .i64 handler, .int .i64 back, .bool pending, .bool halted] 30))
  generalize w1.alloc (.cells #[.int .i64 sn, .int .i64 pc, .string regs, .string cells, .int .i64 clock, .int .i64 handler, .int .i64 back, .bool pending, .bool halted] 30) = wy at *
  clear cy fy gy
  obtain ⟨cx, fx, gx⟩ := unhide X2
  obtain ⟨cy, fy, gy⟩ := unhide Y2
  clear gx gy
  have cz := ((unhide Y2).putE (.bool true) (.int .i64 sn) (.int .i64 sn) (.int .i64 pc) (.string regs) (.string cells) (.int .i64 clock) (.int .i64 handler) (.int .i64 back) (.bool pending) (.bool halted) (.int .i64 0) (.int .i64 0) (.bool false)).c
  go_wp2_with fail
  refine bodyPost_ret (v := .tuple #[.agg #[.bool true, .int .i64 sn, .int .i64 sn, .int .i64 pc, .string regs, .string cells, .int .i64 clock, .int .i64 handler, .int .i64 back, .bool pending, .bool halted, .int .i64 0, .int .i64 0, .bool false], .bool okc]) (by simp [results, Tryz.results86, go_sem, cz]) rfl ⟨rfl, ?_⟩
  repeat (refine Below.setCell ?_ (by simp) _)
  exact unhide B2

set_option maxRecDepth 100000 in
set_option maxHeartbeats 4000000 in
theorem entry_e (t : ByteArray) (ht : t.size = 40) (h0 : ¬ Code.byt t 0 = 67) (w : World) :
    Calls Tryz.prog 86 #[.string t] w fun e w' => e = .returned (.tuple #[(Hist.enE t).eval, .bool (Hist.okE t)]) ∧ Below w.heap.size w w' := by
  have hf0 := Code.byt_eq t 0 (by omega)
  have f0c : ¬ ((Code.byt t 0 : Nat) : Int) = 67 := by omega
  have HS := hide (choice_ref t ht)
  have hv : (Hist.enE t).eval = ev false (Hist.nOf t : Nat) Mach.zero (Hist.chOf t) := rfl
  rw [hv]
  clear hv
  generalize Hist.chOf t = c at *
  generalize ((Hist.nOf t : Nat) : Int) = nn at *
  generalize Hist.okE t = okc at *
  obtain ⟨input, ticks, interrupt⟩ := c
  go_enter Tryz.func86, Tryz.ntmps86
  go_wp2_with fail
  refine (unhide HS _).mono ?_
  rintro e w1 ⟨rfl, hb⟩
  have Y1 := hide ((Box.new w #[.bool false, .int .i64 0, .int .i64 0, .int .i64 0, .string ⟨#[]⟩, .string ⟨#[]⟩, .int .i64 0, .int .i64 0, .int .i64 0, .bool false, .bool false, .int .i64 0, .int .i64 0, .bool false] 87).next hb)
  have B1 := hide (bel_alloc hb)
  clear hb HS
  obtain ⟨cy, fy, gy⟩ := unhide Y1
  have hne : ¬ w1.heap.size = w.heap.size := by omega
  have hne2 : ¬ w.heap.size = w1.heap.size := by omega
  go_upto_region 5 with fail
  have X2 := hide (Box.new w1 #[.int .i64 input, .int .i64 ticks, .bool interrupt] 32)
  have Y2 := hide ((unhide Y1).alloc (.cells #[.int .i64 input, .int .i64 ticks, .bool interrupt] 32))
  have B2 := hide ((unhide B1).alloc (by omega) (.cells #[.int .i64 input, .int .i64 ticks, .bool interrupt] 32))
  generalize w1.alloc (.cells #[.int .i64 input, .int .i64 ticks, .bool interrupt] 32) = wy at *
  clear cy fy gy
  obtain ⟨cx, fx, gx⟩ := unhide X2
  obtain ⟨cy, fy, gy⟩ := unhide Y2
  clear gx gy
  have cz := ((unhide Y2).putE (.bool false) (.int .i64 nn) (.int .i64 0) (.int .i64 0) (.string ⟨#[]⟩) (.string ⟨#[]⟩) (.int .i64 0) (.int .i64 0) (.int .i64 0) (.bool false) (.bool false) (.int .i64 input) (.int .i64 ticks) (.bool interrupt)).c
  go_wp2_with fail
  refine bodyPost_ret (v := .tuple #[.agg #[.bool false, .int .i64 nn, .int .i64 0, .int .i64 0, .string ⟨#[]⟩, .string ⟨#[]⟩, .int .i64 0, .int .i64 0, .int .i64 0, .bool false, .bool false, .int .i64 input, .int .i64 ticks, .bool interrupt], .bool okc]) (by simp [results, Tryz.results86, go_sem, cz]) rfl ⟨rfl, ?_⟩
  repeat (refine Below.setCell ?_ (by simp) _)
  exact unhide B2

theorem entry_ref (t : ByteArray) (ht : t.size = 40) (w : World) :
    Calls Tryz.prog 86 #[.string t] w fun e w' => e = .returned (.tuple #[(Hist.rawE t).eval, .bool (Hist.read t).isSome]) ∧ Below w.heap.size w w' := by
  by_cases h0 : Code.byt t 0 = 67
  · have e1 : Hist.rawE t = Hist.enC t := if_pos h0
    have e2 : (Hist.read t).isSome = Hist.okC t := by
      rw [Hist.read_C h0]
      cases Hist.okC t <;> rfl
    rw [e1, e2]
    exact entry_c t ht h0 w
  · have e1 : Hist.rawE t = Hist.enE t := if_neg h0
    have e2 : (Hist.read t).isSome = Hist.okE t := by
      rw [Hist.read_E h0]
      cases Hist.okE t <;> rfl
    rw [e1, e2]
    exact entry_e t ht h0 w
end Go.Proofs.YtcmoffiigpchiaaGreat
