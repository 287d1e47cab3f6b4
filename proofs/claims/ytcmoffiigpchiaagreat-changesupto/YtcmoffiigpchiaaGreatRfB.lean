import Derived.Test.YtcmoffiigpchiaaGreatRfA
import Derived.Test.YtcmoffiigpchiaaGreatRdC
import Derived.Test.YtcmoffiigpchiaaGreatOfW
namespace Go.Proofs.YtcmoffiigpchiaaGreat
open Go.RowKit

set_option maxRecDepth 100000 in
set_option maxHeartbeats 4000000 in
theorem choice_ref (t : ByteArray) (ht : t.size = 40) (w : World) :
    Calls Tryz.prog 113 #[.string t] w fun e w' => e = .returned (.tuple #[.int .i64 (Hist.nOf t : Nat), (Hist.chOf t).val, .bool (Hist.okE t)]) ∧ Below w.heap.size w w' := by
  have hf9 := Code.byt_eq t 9 (by omega)
  have hf7 := Code.byt_eq t 7 (by omega)
  have hf8 := Code.byt_eq t 8 (by omega)
  have hl7 := Code.byt_lt t 7
  have hl8 := Code.byt_lt t 8
  have hl9 := Code.byt_lt t 9
  have H1 := hide (high_ref (t.extract 3 7) (by rw [size_ex t (by omega)]; omega))
  have H3 := hide (high_ref (t.extract 1 3) (by rw [size_ex t (by omega)]; omega))
  rw [show Frame.highN (t.extract 3 7) = Hist.nOf t from rfl] at H1
  rw [show Frame.highN (t.extract 1 3) = Hist.numOf t from rfl] at H3
  have hv7 : IntKind.i64.wrap ((Code.byt t 7 : Nat) : Int) = ((Code.byt t 7 : Nat) : Int) := i64_wrap_nat _ (by omega)
  have hv8 : IntKind.i64.wrap ((Code.byt t 8 : Nat) : Int) = ((Code.byt t 8 : Nat) : Int) := i64_wrap_nat _ (by omega)
  have HO := hide (ofChoice_any (Hist.numOf t) (Hist.numOf_lt ht) (Hist.nOf t) (Hist.nOf_lt ht) (Hist.chOf t) (Hist.chOf_chosen t))
  have HK := hide (Hist.okE_not ht)
  have hdn : decide (Hist.nOf t < 10000) = decide (((Hist.nOf t : Nat) : Int) < 10000) := decide_eq_decide.2 (by omega)
  rw [hdn] at HK
  clear hdn
  have hst : (Hist.chOf t).val = .agg #[.int .i64 (Code.byt t 7 : Nat), .int .i64 (Code.byt t 8 : Nat), .bool (((Code.byt t 9 : Nat) : Int) == 1)] := by rw [← beq_one]; rfl
  rw [hst] at HO ⊢
  clear hst
  generalize Frame.ofChoice (Hist.numOf t) (Hist.nOf t) (Hist.chOf t) = fo at *
  generalize Hist.okE t = okc at *
  generalize ((Hist.nOf t : Nat) : Int) = nn at *
  go_enter Tryz.func113, Tryz.ntmps113
  go_upto_region 2 with (go_at_call 87; refine (unhide H1 _).mono ?_; rintro e w2 ⟨rfl, hw⟩; obtain rfl := hw.symm)
  have X0 := hide (Box.new w #[.int .i64 0, .int .i64 0, .bool false] 32)
  have B0 := hide ((Below.refl w.heap.size w).alloc (Nat.le_refl _) (.cells #[.int .i64 0, .int .i64 0, .bool false] 32))
  have hz : (w.alloc (.cells #[.int .i64 0, .int .i64 0, .bool false] 32)).heap.size = w.heap.size + 1 := by simp
  generalize w.alloc (.cells #[.int .i64 0, .int .i64 0, .bool false] 32) = wy at *
  obtain ⟨cx, fx, gx⟩ := unhide X0
  go_cut [6] (fun x4 wx => x4 = .pointer (some ⟨w.heap.size + 1, 0, none⟩) ∧ Box wx (w.heap.size + 1) #[.int .i64 (Code.byt t 7 : Nat), .int .i64 (Code.byt t 8 : Nat), .bool (((Code.byt t 9 : Nat) : Int) == 1)] ∧ Box wx w.heap.size #[.int .i64 0, .int .i64 0, .bool false] ∧ Below w.heap.size w wx)
  case first =>
    refine region_last2 11 (S := (fun _ => True)) _ rfl rfl (by kernel_rfl) (by kernel_rfl) (by trivial) (fun hHeld => ?_)
    simp only [List.pop_toArray, List.dropLast_cons_cons, List.dropLast_singleton]
    refine wpAnyH_take (i := 0) (v := ?_) rfl (by kernel_rfl) (by kernel_rfl) (by kernel_rfl) (fun _ _ _ h => h) (Or.inl ⟨by rfl, ?hy⟩) hHeld ?_
    case hy =>
      simp only [List.getElem_toArray, List.getElem_cons_zero]
      intro w' hSw
      (try dsimp only at hSw)
      go_simp
      with_reducible rfl
    simp only [List.getElem_toArray, List.getElem_cons_zero, Act.put, List.setIfInBounds_toArray, List.set_cons_zero, List.set_cons_succ]
    refine wpAnyH_take (i := 1) (v := ?_) rfl (by kernel_rfl) (by kernel_rfl) (by kernel_rfl) (fun _ _ _ h => h) (Or.inl ⟨by rfl, ?hy⟩) hHeld ?_
    case hy =>
      simp only [List.getElem_toArray, List.getElem_cons_succ, List.getElem_cons_zero]
      intro w' hSw
      (try dsimp only at hSw)
      go_simp
      with_reducible rfl
    simp only [List.getElem_toArray, List.getElem_cons_succ, List.getElem_cons_zero, Act.put, List.setIfInBounds_toArray, List.set_cons_zero, List.set_cons_succ]
    refine wpAnyH_take (i := 2) (v := ?_) rfl (by kernel_rfl) (by kernel_rfl) (by kernel_rfl) (fun _ _ _ h => h) (Or.inl ⟨by rfl, ?hy⟩) hHeld ?_
    case hy =>
      simp only [List.getElem_toArray, List.getElem_cons_succ, List.getElem_cons_zero]
      intro w' hSw
      (try dsimp only at hSw)
      go_simp
      with_reducible rfl
    simp only [List.getElem_toArray, List.getElem_cons_succ, List.getElem_cons_zero, Act.put, List.setIfInBounds_toArray, List.set_cons_zero, List.set_cons_succ]
    refine wpAnyH_take (i := 3) (v := ?_) rfl (by kernel_rfl) (by kernel_rfl) (by kernel_rfl) (fun _ _ _ h => h) (Or.inl ⟨by rfl, ?hy⟩) hHeld ?_
    case hy =>
      simp only [List.getElem_toArray, List.getElem_cons_succ, List.getElem_cons_zero]
      intro w' hSw
      (try dsimp only at hSw)
      go_simp
      with_reducible rfl
    simp only [List.getElem_toArray, List.getElem_cons_succ, List.getElem_cons_zero, Act.put, List.setIfInBounds_toArray, List.set_cons_zero, List.set_cons_succ]
    refine wpAnyH_take (i := 4) (v := ?_) rfl (by kernel_rfl) (by kernel_rfl) (by kernel_rfl) (fun _ _ _ h => h) (Or.inl ⟨by rfl, ?hy⟩) hHeld ?_
    case hy =>
      simp only [List.getElem_toArray, List.getElem_cons_succ, List.getElem_cons_zero]
      intro w' hSw
      (try dsimp only at hSw)
      go_simp
      with_reducible rfl
    simp only [List.getElem_toArray, List.getElem_cons_succ, List.getElem_cons_zero, Act.put, List.setIfInBounds_toArray, List.set_cons_zero, List.set_cons_succ]
    refine wpAnyH_take (i := 5) (v := ?_) rfl (by kernel_rfl) (by kernel_rfl) (by kernel_rfl) (fun _ _ _ h => h) (Or.inl ⟨by rfl, ?hy⟩) hHeld ?_
    case hy =>
      simp only [List.getElem_toArray, List.getElem_cons_succ, List.getElem_cons_zero]
      intro w' hSw
      (try dsimp only at hSw)
      go_simp
      with_reducible rfl
    simp only [List.getElem_toArray, List.getElem_cons_succ, List.getElem_cons_zero, Act.put, List.setIfInBounds_toArray, List.set_cons_zero, List.set_cons_succ]
    refine wpAnyH_take (i := 6) (v := ?_) rfl (by kernel_rfl) (by kernel_rfl) (by kernel_rfl) (fun _ _ _ h => h) (Or.inl ⟨by rfl, ?hy⟩) hHeld ?_
    case hy =>
      simp only [List.getElem_toArray, List.getElem_cons_succ, List.getElem_cons_zero]
      intro w' hSw
      (try dsimp only at hSw)
      go_simp
      with_reducible rfl
    simp only [List.getElem_toArray, List.getElem_cons_succ, List.getElem_cons_zero, Act.put, List.setIfInBounds_toArray, List.set_cons_zero, List.set_cons_succ]
    refine wpAnyH_take (i := 7) (v := ?_) rfl (by kernel_rfl) (by kernel_rfl) (by kernel_rfl) (fun _ _ _ h => h) (Or.inl ⟨by rfl, ?hy⟩) hHeld ?_
    case hy =>
      simp only [List.getElem_toArray, List.getElem_cons_succ, List.getElem_cons_zero]
      intro w' hSw
      (try dsimp only at hSw)
      go_simp
      with_reducible rfl
    simp only [List.getElem_toArray, List.getElem_cons_succ, List.getElem_cons_zero, Act.put, List.setIfInBounds_toArray, List.set_cons_zero, List.set_cons_succ]
    refine wpAnyH_take (i := 8) (v := ?_) rfl (by kernel_rfl) (by kernel_rfl) (by kernel_rfl) (fun _ _ _ h => h) (Or.inl ⟨by rfl, ?hy⟩) hHeld ?_
    case hy =>
      simp only [List.getElem_toArray, List.getElem_cons_succ, List.getElem_cons_zero]
      intro w' hSw
      (try dsimp only at hSw)
      go_simp
      with_reducible rfl
    simp only [List.getElem_toArray, List.getElem_cons_succ, List.getElem_cons_zero, Act.put, List.setIfInBounds_toArray, List.set_cons_zero, List.set_cons_succ]
    refine wpAnyH_take (i := 9) (v := ?_) rfl (by kernel_rfl) (by kernel_rfl) (by kernel_rfl) (fun _ _ _ h => h) (Or.inl ⟨by rfl, ?hy⟩) hHeld ?_
    case hy =>
      simp only [List.getElem_toArray, List.getElem_cons_succ, List.getElem_cons_zero]
      intro w' hSw
      (try dsimp only at hSw)
      go_simp
      with_reducible rfl
    simp only [List.getElem_toArray, List.getElem_cons_succ, List.getElem_cons_zero, Act.put, List.setIfInBounds_toArray, List.set_cons_zero, List.set_cons_succ]
    refine wpAnyH_ready (rs := [10]) (by kernel_rfl) (by simp) ?_
    refine AllReadyH.cons rfl (fun K hK => ?_) AllReadyH.nil
    simp only [List.getElem_toArray, List.getElem_cons_succ, List.getElem_cons_zero]
    go_simp
    refine hK.out _ _ (by trivial) (fun hH1 => ?_)
    clear hK K
    refine wpAnyH_done (by kernel_rfl) ?_ _
    refine last_step rfl (fun K hK => ?_)
    go_simp
    refine (unhide hK) _ _ ?_
    clear hK K
    go_wp2_with fail
    go_meet
    case rel =>
      have Z := (Box.new wy #[.int .i64 (Code.byt t 7 : Nat), .int .i64 (Code.byt t 8 : Nat), .bool (((Code.byt t 9 : Nat) : Int) == 1)] 32).drew
      rw [hz] at Z
      exact ⟨rfl, Z, ((unhide X0).alloc _).drew, Below.drew ((unhide B0).alloc (by omega) _)⟩
  case rest =>
    obtain ⟨rfl, x1, y1, b1⟩ := hcut
    have X3 := hide x1
    have Y3 := hide y1
    have B3 := hide b1
    clear x1 y1 b1 cx fx gx hz X0 B0
    generalize hbi : (((Code.byt t 9 : Nat) : Int) == 1) = bi at *
    have HBI := hide hbi
    clear hbi
    obtain ⟨cx, fx, gx⟩ := unhide X3
    clear gx
    go_upto_region 3 with fail
    go_cut [7] (fun x7 wx => x7 = .bool (decide (fo = t)) ∧ Box wx (w.heap.size + 1) #[.int .i64 (Code.byt t 7 : Nat), .int .i64 (Code.byt t 8 : Nat), .bool bi] ∧ Box wx w.heap.size #[.int .i64 0, .int .i64 0, .bool false] ∧ Below w.heap.size w wx)
    case first =>
      go_region_held3 (fun u => u.cell? ⟨w.heap.size + 1, 0, none⟩ = some (.int .i64 (Code.byt t 7 : Nat)) ∧ u.cell? ⟨w.heap.size + 1, 1, none⟩ = some (.int .i64 (Code.byt t 8 : Nat)) ∧ u.cell? ⟨w.heap.size + 1, 2, none⟩ = some (.bool bi)) (first | go_keep | (go_simp; done)) (first | (go_at_call 87; refine (unhide H3 _).mono ?_; rintro e w4 ⟨rfl, hw⟩; obtain rfl := hw.symm) | (go_at_call 68; refine (unhide HO _).mono ?_; rintro e w4 ⟨rfl, hb⟩; have L4 := hide (bel_undrew hb); clear hb; have X4 := hide ((unhide X3).next (unhide L4)); obtain ⟨cx4, fx4, gx4⟩ := unhide X4; clear gx4))
      all_goals
        go_wp2_with fail
        go_meet
        case rel => exact ⟨congrArg Value.bool (bytes_beq fo t), unhide X4, (unhide Y3).next (unhide L4), (unhide B3).trans ((unhide L4).mono (unhide B3).size)⟩
    case rest =>
      obtain ⟨rfl, x1, y1, b1⟩ := hcut
      have X5 := hide x1
      have Y5 := hide y1
      have B5 := hide b1
      clear x1 y1 b1 cx fx X3 Y3 B3
      obtain ⟨cx, fx, gx⟩ := unhide X5
      obtain ⟨cy, fy, gy⟩ := unhide Y5
      clear gx gy
      have hkk := unhide HK
      generalize decide (fo = t) = sm at *
      go_upto_region 4 with fail
      go_cut [2, 4] (fun x2 x4 wx => x2 = .int .i64 nn ∧ x4 = .bool okc ∧ Box wx w.heap.size #[.int .i64 (Code.byt t 7 : Nat), .int .i64 (Code.byt t 8 : Nat), .bool bi] ∧ Below w.heap.size w wx)
      case first =>
        cases sm with
        | false =>
          have hk : okc = false := by simpa using hkk.symm
          subst hk
          refine region_last2 9 (S := (fun u => u.cell? ⟨w.heap.size + 1, 0, none⟩ = some (.int .i64 (Code.byt t 7 : Nat)) ∧ u.cell? ⟨w.heap.size + 1, 1, none⟩ = some (.int .i64 (Code.byt t 8 : Nat)) ∧ u.cell? ⟨w.heap.size + 1, 2, none⟩ = some (.bool bi))) _ rfl rfl (by kernel_rfl) (by kernel_rfl) (by first | go_keep | (go_simp; done)) (fun hHeld => ?_)
          simp only [List.pop_toArray, List.dropLast_cons_cons, List.dropLast_singleton]
          refine wpAnyH_take (i := 0) (v := ?_) rfl (by kernel_rfl) (by kernel_rfl) (by kernel_rfl) (fun _ _ _ h => h) (Or.inl ⟨by rfl, ?hy⟩) hHeld ?_
          case hy =>
            simp only [List.getElem_toArray, List.getElem_cons_zero]
            intro w' hSw
            (try dsimp only at hSw)
            go_simp
            with_reducible rfl
          simp only [List.getElem_toArray, List.getElem_cons_zero, Act.put, List.setIfInBounds_toArray, List.set_cons_zero, List.set_cons_succ]
          refine wpAnyH_take (i := 1) (v := ?_) rfl (by kernel_rfl) (by kernel_rfl) (by kernel_rfl) (fun _ _ _ h => h) (Or.inl ⟨by rfl, ?hy⟩) hHeld ?_
          case hy =>
            simp only [List.getElem_toArray, List.getElem_cons_succ, List.getElem_cons_zero]
            intro w' hSw
            (try dsimp only at hSw)
            go_simp
            with_reducible rfl
          simp only [List.getElem_toArray, List.getElem_cons_succ, List.getElem_cons_zero, Act.put, List.setIfInBounds_toArray, List.set_cons_zero, List.set_cons_succ]
          refine wpAnyH_take (i := 2) (v := ?_) rfl (by kernel_rfl) (by kernel_rfl) (by kernel_rfl) (fun _ _ _ h => h) (Or.inl ⟨by rfl, ?hy⟩) hHeld ?_
          case hy =>
            simp only [List.getElem_toArray, List.getElem_cons_succ, List.getElem_cons_zero]
            intro w' hSw
            (try dsimp only at hSw)
            go_simp
            with_reducible rfl
          simp only [List.getElem_toArray, List.getElem_cons_succ, List.getElem_cons_zero, Act.put, List.setIfInBounds_toArray, List.set_cons_zero, List.set_cons_succ]
          refine wpAnyH_take (i := 3) (v := ?_) rfl (by kernel_rfl) (by kernel_rfl) (by kernel_rfl) (fun _ _ _ h => h) (Or.inl ⟨by rfl, ?hy⟩) hHeld ?_
          case hy =>
            simp only [List.getElem_toArray, List.getElem_cons_succ, List.getElem_cons_zero]
            intro w' hSw
            (try dsimp only at hSw)
            go_simp
            with_reducible rfl
          simp only [List.getElem_toArray, List.getElem_cons_succ, List.getElem_cons_zero, Act.put, List.setIfInBounds_toArray, List.set_cons_zero, List.set_cons_succ]
          refine wpAnyH_take (i := 4) (v := undef) rfl (by kernel_rfl) (by kernel_rfl) (by kernel_rfl) (fun _ _ _ h => h) (Or.inr ⟨by rfl, rfl⟩) hHeld ?_
          simp only [List.getElem_toArray, List.getElem_cons_succ, List.getElem_cons_zero, Act.put, List.setIfInBounds_toArray, List.set_cons_zero, List.set_cons_succ]
          refine wpAnyH_take (i := 5) (v := undef) rfl (by kernel_rfl) (by kernel_rfl) (by kernel_rfl) (fun _ _ _ h => h) (Or.inr ⟨by rfl, rfl⟩) hHeld ?_
          simp only [List.getElem_toArray, List.getElem_cons_succ, List.getElem_cons_zero, Act.put, List.setIfInBounds_toArray, List.set_cons_zero, List.set_cons_succ]
          refine wpAnyH_take (i := 6) (v := ?_) rfl (by kernel_rfl) (by kernel_rfl) (by kernel_rfl) (fun _ _ _ h => h) (Or.inl ⟨by rfl, ?hy⟩) hHeld ?_
          case hy =>
            simp only [List.getElem_toArray, List.getElem_cons_succ, List.getElem_cons_zero]
            intro w' hSw
            (try dsimp only at hSw)
            go_simp
            with_reducible rfl
          simp only [List.getElem_toArray, List.getElem_cons_succ, List.getElem_cons_zero, Act.put, List.setIfInBounds_toArray, List.set_cons_zero, List.set_cons_succ]
          refine wpAnyH_take (i := 7) (v := ?_) rfl (by kernel_rfl) (by kernel_rfl) (by kernel_rfl) (fun _ _ _ h => h) (Or.inl ⟨by rfl, ?hy⟩) hHeld ?_
          case hy =>
            simp only [List.getElem_toArray, List.getElem_cons_succ, List.getElem_cons_zero]
            intro w' hSw
            (try dsimp only at hSw)
            go_simp
            with_reducible rfl
          simp only [List.getElem_toArray, List.getElem_cons_succ, List.getElem_cons_zero, Act.put, List.setIfInBounds_toArray, List.set_cons_zero, List.set_cons_succ]
          refine wpAnyH_ready (rs := [8]) (by kernel_rfl) (by simp) ?_
          refine AllReadyH.cons rfl (fun K hK => ?_) AllReadyH.nil
          simp only [List.getElem_toArray, List.getElem_cons_succ, List.getElem_cons_zero]
          go_simp
          refine hK.out _ _ (by first | go_keep | (go_simp; done)) (fun hH1 => ?_)
          clear hK K
          refine wpAnyH_done (by kernel_rfl) ?_ _
          refine last_step rfl (fun K hK => ?_)
          go_simp
          refine (unhide hK) _ _ ?_
          clear hK K
          go_wp2_with fail
          go_meet
          case rel =>
            refine ⟨rfl, rfl, ((unhide Y5).put3 _ _ _).drew, Below.drew ?_⟩
            repeat (refine Below.setCell ?_ (by simp) _)
            exact unhide B5
        | true =>
          have hk : okc = decide (nn < 10000) := by simpa using hkk.symm
          subst hk
          go_region_held3 (fun u => u.cell? ⟨w.heap.size + 1, 0, none⟩ = some (.int .i64 (Code.byt t 7 : Nat)) ∧ u.cell? ⟨w.heap.size + 1, 1, none⟩ = some (.int .i64 (Code.byt t 8 : Nat)) ∧ u.cell? ⟨w.heap.size + 1, 2, none⟩ = some (.bool bi)) (first | go_keep | (go_simp; done)) (fail)
          all_goals
            go_wp2_with fail
            go_meet
            case rel =>
              refine ⟨rfl, rfl, ((unhide Y5).put3 _ _ _).drew, Below.drew ?_⟩
              repeat (refine Below.setCell ?_ (by simp) _)
              exact unhide B5
      case rest =>
        obtain ⟨rfl, rfl, y2, b2⟩ := hcut
        have B6 := hide b2
        clear cx fx cy fy b2
        obtain ⟨cz, fz, gz⟩ := y2
        go_wp2_with fail
        refine bodyPost_ret (v := .tuple #[.int .i64 nn, .agg #[.int .i64 (Code.byt t 7 : Nat), .int .i64 (Code.byt t 8 : Nat), .bool bi], .bool okc]) (by simp [results, Tryz.results113, go_sem, cz]) rfl ⟨by rw [unhide HBI], unhide B6⟩
end Go.Proofs.YtcmoffiigpchiaaGreat
