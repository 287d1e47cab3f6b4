import Derived.Test.YtcmoffiigpchiaaGreatRdB
namespace Go.Proofs.YtcmoffiigpchiaaGreat
open Go.RowKit

theorem beq_one (x : Nat) : decide (x = 1) = ((x : Int) == 1) := by
  by_cases h : x = 1
  · simp [h]
  · have : ¬ (x : Int) = 1 := by omega
    simp [h, this]

set_option maxRecDepth 100000 in
set_option maxHeartbeats 4000000 in
theorem readChoice_code (t : ByteArray) (ht : t.size = 40) (w : World) :
    Calls Tryz.prog 110 #[fv 69 (Hist.numOf t : Nat) (Hist.nOf t : Nat) Mach.zero Hist.noCh, .string t] w fun e w' => ∃ v, e = .returned (.tuple #[v, .bool (decide (Code.byt t 9 ≤ 1) && Hist.nought t 10 36 && decide (Hist.nOf t < 10000))]) ∧ ((decide (Code.byt t 9 ≤ 1) && Hist.nought t 10 36 && decide (Hist.nOf t < 10000)) = true → v = (Hist.enE t).fval) ∧ (∃ kd k n s c, v = fv kd k n s c) ∧ Below w.heap.size w w' := by
  have hf9 := Code.byt_eq t 9 (by omega)
  have hf7 := Code.byt_eq t 7 (by omega)
  have hf8 := Code.byt_eq t 8 (by omega)
  have hl7 := Code.byt_lt t 7
  have hl8 := Code.byt_lt t 8
  have HN := hide (isNought_code (t.extract 10 36) (by rw [size_ex t (by omega)]; omega))
  rw [Hist.nought_ex t (by omega) (by omega)] at HN
  have HE : Hid ((Hist.enE t).fval = .agg #[.int .u8 69, .int .i64 (Hist.numOf t : Nat), .int .i64 (Hist.nOf t : Nat), .int .i64 0, .int .i64 0, .string ⟨#[]⟩, .string ⟨#[]⟩, .int .i64 0, .int .i64 0, .int .i64 0, .bool false, .bool false, .int .i64 (Code.byt t 7 : Nat), .int .i64 (Code.byt t 8 : Nat), .bool (((Code.byt t 9 : Nat) : Int) == 1)]) := hide (by rw [← beq_one]; rfl)
  have hdn : decide (Hist.nOf t < 10000) = decide (((Hist.nOf t : Nat) : Int) < 10000) := decide_eq_decide.2 (by omega)
  rw [hdn]
  clear hdn
  have HW : Hid (∃ kd k n s c, (Hist.enE t).fval = fv kd k n s c) := hide ⟨69, (Hist.numOf t : Nat), (Hist.nOf t : Nat), Mach.zero, Hist.chOf t, rfl⟩
  generalize (Hist.enE t).fval = ev at *
  generalize Hist.nought t 10 36 = nt at *
  show Calls Tryz.prog 110 #[.agg #[.int .u8 69, .int .i64 (Hist.numOf t : Nat), .int .i64 (Hist.nOf t : Nat), .int .i64 0, .int .i64 0, .string ⟨#[]⟩, .string ⟨#[]⟩, .int .i64 0, .int .i64 0, .int .i64 0, .bool false, .bool false, .int .i64 0, .int .i64 0, .bool false], .string t] w _
  generalize ((Hist.numOf t : Nat) : Int) = kk at *
  generalize ((Hist.nOf t : Nat) : Int) = nn at *
  by_cases h3 : Code.byt t 9 ≤ 1
  · have d3 : decide (Code.byt t 9 ≤ 1) = true := by simp [h3]
    have h3' : ¬ (1 : Int) < ((Code.byt t 9 : Nat) : Int) := by omega
    have hv7 : IntKind.i64.wrap ((Code.byt t 7 : Nat) : Int) = ((Code.byt t 7 : Nat) : Int) := i64_wrap_nat _ (by omega)
    have hv8 : IntKind.i64.wrap ((Code.byt t 8 : Nat) : Int) = ((Code.byt t 8 : Nat) : Int) := i64_wrap_nat _ (by omega)
    simp only [d3, Bool.true_and]
    cases nt
    · simp only [Bool.false_and]
      go_enter Tryz.func110, Tryz.ntmps110
      go_wp2_with (go_at_call 123; refine (unhide HN _).mono ?_; rintro e w' ⟨rfl, rfl⟩)
      refine bodyPost_ret (v := .tuple #[.agg #[.int .u8 0, .int .i64 0, .int .i64 0, .int .i64 0, .int .i64 0, .string ⟨#[]⟩, .string ⟨#[]⟩, .int .i64 0, .int .i64 0, .int .i64 0, .bool false, .bool false, .int .i64 0, .int .i64 0, .bool false], .bool false]) (by simp [results, Tryz.results110, go_sem]) rfl ⟨_, rfl, (fun h => by cases h), ⟨0, 0, 0, Mach.zero, Hist.noCh, rfl⟩, ?_⟩
      exact ((Below.refl _ _).alloc (Nat.le_refl _) _).alloc (by simp) _
    · simp only [Bool.true_and]
      go_enter Tryz.func110, Tryz.ntmps110
      go_upto_region 4 with (go_at_call 123; refine (unhide HN _).mono ?_; rintro e w' ⟨rfl, rfl⟩)
      have X0 := hide ((Box.new w #[.int .u8 69, .int .i64 kk, .int .i64 nn, .int .i64 0, .int .i64 0, .string ⟨#[]⟩, .string ⟨#[]⟩, .int .i64 0, .int .i64 0, .int .i64 0, .bool false, .bool false, .int .i64 0, .int .i64 0, .bool false] 116).alloc (.cells #[.int .u8 0, .int .i64 0, .int .i64 0, .int .i64 0, .int .i64 0, .string ⟨#[]⟩, .string ⟨#[]⟩, .int .i64 0, .int .i64 0, .int .i64 0, .bool false, .bool false, .int .i64 0, .int .i64 0, .bool false] 116))
      have Y0 := hide (Box.new (w.alloc (.cells #[.int .u8 69, .int .i64 kk, .int .i64 nn, .int .i64 0, .int .i64 0, .string ⟨#[]⟩, .string ⟨#[]⟩, .int .i64 0, .int .i64 0, .int .i64 0, .bool false, .bool false, .int .i64 0, .int .i64 0, .bool false] 116)) #[.int .u8 0, .int .i64 0, .int .i64 0, .int .i64 0, .int .i64 0, .string ⟨#[]⟩, .string ⟨#[]⟩, .int .i64 0, .int .i64 0, .int .i64 0, .bool false, .bool false, .int .i64 0, .int .i64 0, .bool false] 116)
      have B0 := hide (((Below.refl w.heap.size w).alloc (Nat.le_refl _) (.cells #[.int .u8 69, .int .i64 kk, .int .i64 nn, .int .i64 0, .int .i64 0, .string ⟨#[]⟩, .string ⟨#[]⟩, .int .i64 0, .int .i64 0, .int .i64 0, .bool false, .bool false, .int .i64 0, .int .i64 0, .bool false] 116)).alloc (by simp) (.cells #[.int .u8 0, .int .i64 0, .int .i64 0, .int .i64 0, .int .i64 0, .string ⟨#[]⟩, .string ⟨#[]⟩, .int .i64 0, .int .i64 0, .int .i64 0, .bool false, .bool false, .int .i64 0, .int .i64 0, .bool false] 116))
      rw [show (w.alloc (.cells #[.int .u8 69, .int .i64 kk, .int .i64 nn, .int .i64 0, .int .i64 0, .string ⟨#[]⟩, .string ⟨#[]⟩, .int .i64 0, .int .i64 0, .int .i64 0, .bool false, .bool false, .int .i64 0, .int .i64 0, .bool false] 116)).heap.size = w.heap.size + 1 by simp] at Y0
      generalize (w.alloc (.cells #[.int .u8 69, .int .i64 kk, .int .i64 nn, .int .i64 0, .int .i64 0, .string ⟨#[]⟩, .string ⟨#[]⟩, .int .i64 0, .int .i64 0, .int .i64 0, .bool false, .bool false, .int .i64 0, .int .i64 0, .bool false] 116)).alloc (.cells #[.int .u8 0, .int .i64 0, .int .i64 0, .int .i64 0, .int .i64 0, .string ⟨#[]⟩, .string ⟨#[]⟩, .int .i64 0, .int .i64 0, .int .i64 0, .bool false, .bool false, .int .i64 0, .int .i64 0, .bool false] 116) = wy at *
      obtain ⟨cx, fx, gx⟩ := unhide X0
      clear gx
      go_cut [] (fun wx => Box wx w.heap.size #[.int .u8 69, .int .i64 kk, .int .i64 nn, .int .i64 0, .int .i64 0, .string ⟨#[]⟩, .string ⟨#[]⟩, .int .i64 0, .int .i64 0, .int .i64 0, .bool false, .bool false, .int .i64 (Code.byt t 7 : Nat), .int .i64 (Code.byt t 8 : Nat), .bool (((Code.byt t 9 : Nat) : Int) == 1)] ∧ Box wx (w.heap.size + 1) #[.int .u8 0, .int .i64 0, .int .i64 0, .int .i64 0, .int .i64 0, .string ⟨#[]⟩, .string ⟨#[]⟩, .int .i64 0, .int .i64 0, .int .i64 0, .bool false, .bool false, .int .i64 0, .int .i64 0, .bool false] ∧ Below w.heap.size w wx)
      case first =>
        refine region_last2 10 (S := (fun _ => True)) _ rfl rfl (by kernel_rfl) (by kernel_rfl) trivial (fun hHeld => ?_)
        simp only [List.pop_toArray, List.dropLast_cons_cons, List.dropLast_singleton]
        refine wpAnyH_take (i := 0) (v := ?_) rfl (by kernel_rfl) (by kernel_rfl) (by kernel_rfl) (fun _ _ _ h => h) (Or.inl ⟨by rfl, ?hy⟩) trivial ?_
        case hy =>
          simp only [List.getElem_toArray, List.getElem_cons_zero]
          intro w' hSw
          (try dsimp only at hSw)
          go_simp
          with_reducible rfl
        simp only [List.getElem_toArray, List.getElem_cons_zero, Act.put, List.setIfInBounds_toArray, List.set_cons_zero, List.set_cons_succ]
        refine wpAnyH_take (i := 1) (v := ?_) rfl (by kernel_rfl) (by kernel_rfl) (by kernel_rfl) (fun _ _ _ h => h) (Or.inl ⟨by rfl, ?hy⟩) trivial ?_
        case hy =>
          simp only [List.getElem_toArray, List.getElem_cons_succ, List.getElem_cons_zero]
          intro w' hSw
          (try dsimp only at hSw)
          go_simp
          with_reducible rfl
        simp only [List.getElem_toArray, List.getElem_cons_succ, List.getElem_cons_zero, Act.put, List.setIfInBounds_toArray, List.set_cons_zero, List.set_cons_succ]
        refine wpAnyH_take (i := 2) (v := ?_) rfl (by kernel_rfl) (by kernel_rfl) (by kernel_rfl) (fun _ _ _ h => h) (Or.inl ⟨by rfl, ?hy⟩) trivial ?_
        case hy =>
          simp only [List.getElem_toArray, List.getElem_cons_succ, List.getElem_cons_zero]
          intro w' hSw
          (try dsimp only at hSw)
          go_simp
          with_reducible rfl
        simp only [List.getElem_toArray, List.getElem_cons_succ, List.getElem_cons_zero, Act.put, List.setIfInBounds_toArray, List.set_cons_zero, List.set_cons_succ]
        refine wpAnyH_take (i := 3) (v := ?_) rfl (by kernel_rfl) (by kernel_rfl) (by kernel_rfl) (fun _ _ _ h => h) (Or.inl ⟨by rfl, ?hy⟩) trivial ?_
        case hy =>
          simp only [List.getElem_toArray, List.getElem_cons_succ, List.getElem_cons_zero]
          intro w' hSw
          (try dsimp only at hSw)
          go_simp
          with_reducible rfl
        simp only [List.getElem_toArray, List.getElem_cons_succ, List.getElem_cons_zero, Act.put, List.setIfInBounds_toArray, List.set_cons_zero, List.set_cons_succ]
        refine wpAnyH_take (i := 4) (v := ?_) rfl (by kernel_rfl) (by kernel_rfl) (by kernel_rfl) (fun _ _ _ h => h) (Or.inl ⟨by rfl, ?hy⟩) trivial ?_
        case hy =>
          simp only [List.getElem_toArray, List.getElem_cons_succ, List.getElem_cons_zero]
          intro w' hSw
          (try dsimp only at hSw)
          go_simp
          with_reducible rfl
        simp only [List.getElem_toArray, List.getElem_cons_succ, List.getElem_cons_zero, Act.put, List.setIfInBounds_toArray, List.set_cons_zero, List.set_cons_succ]
        refine wpAnyH_take (i := 5) (v := ?_) rfl (by kernel_rfl) (by kernel_rfl) (by kernel_rfl) (fun _ _ _ h => h) (Or.inl ⟨by rfl, ?hy⟩) trivial ?_
        case hy =>
          simp only [List.getElem_toArray, List.getElem_cons_succ, List.getElem_cons_zero]
          intro w' hSw
          (try dsimp only at hSw)
          go_simp
          with_reducible rfl
        simp only [List.getElem_toArray, List.getElem_cons_succ, List.getElem_cons_zero, Act.put, List.setIfInBounds_toArray, List.set_cons_zero, List.set_cons_succ]
        refine wpAnyH_take (i := 6) (v := ?_) rfl (by kernel_rfl) (by kernel_rfl) (by kernel_rfl) (fun _ _ _ h => h) (Or.inl ⟨by rfl, ?hy⟩) trivial ?_
        case hy =>
          simp only [List.getElem_toArray, List.getElem_cons_succ, List.getElem_cons_zero]
          intro w' hSw
          (try dsimp only at hSw)
          go_simp
          with_reducible rfl
        simp only [List.getElem_toArray, List.getElem_cons_succ, List.getElem_cons_zero, Act.put, List.setIfInBounds_toArray, List.set_cons_zero, List.set_cons_succ]
        refine wpAnyH_take (i := 7) (v := ?_) rfl (by kernel_rfl) (by kernel_rfl) (by kernel_rfl) (fun _ _ _ h => h) (Or.inl ⟨by rfl, ?hy⟩) trivial ?_
        case hy =>
          simp only [List.getElem_toArray, List.getElem_cons_succ, List.getElem_cons_zero]
          intro w' hSw
          (try dsimp only at hSw)
          go_simp
          with_reducible rfl
        simp only [List.getElem_toArray, List.getElem_cons_succ, List.getElem_cons_zero, Act.put, List.setIfInBounds_toArray, List.set_cons_zero, List.set_cons_succ]
        refine wpAnyH_take (i := 8) (v := ?_) rfl (by kernel_rfl) (by kernel_rfl) (by kernel_rfl) (fun _ _ _ h => h) (Or.inl ⟨by rfl, ?hy⟩) trivial ?_
        case hy =>
          simp only [List.getElem_toArray, List.getElem_cons_succ, List.getElem_cons_zero]
          intro w' hSw
          (try dsimp only at hSw)
          go_simp
          with_reducible rfl
        simp only [List.getElem_toArray, List.getElem_cons_succ, List.getElem_cons_zero, Act.put, List.setIfInBounds_toArray, List.set_cons_zero, List.set_cons_succ]
        refine wpAnyH_take (i := 9) (v := ?_) rfl (by kernel_rfl) (by kernel_rfl) (by kernel_rfl) (fun _ _ _ h => h) (Or.inl ⟨by rfl, ?hy⟩) trivial ?_
        case hy =>
          simp only [List.getElem_toArray, List.getElem_cons_succ, List.getElem_cons_zero]
          intro w' hSw
          (try dsimp only at hSw)
          go_simp
          with_reducible rfl
        simp only [List.getElem_toArray, List.getElem_cons_succ, List.getElem_cons_zero, Act.put, List.setIfInBounds_toArray, List.set_cons_zero, List.set_cons_succ]
        refine wpAnyH_done (by kernel_rfl) ?_ _
        refine last_step rfl (fun K hK => ?_)
        go_simp
        refine (unhide hK) _ _ ?_
        clear hK K
        go_wp2_with fail
        go_meet
        case rel =>
          refine ⟨((unhide X0).putC _ _ _).drew, Box.drew ?_, Below.drew ?_⟩
          · repeat (refine Box.off ?_ (by simp) _)
            exact unhide Y0
          · repeat (refine Below.setCell ?_ (by simp) _)
            exact unhide B0
      case rest =>
        obtain ⟨x1, y1, b1⟩ := hcut
        have X1 := hide x1
        have Y1 := hide y1
        have B1 := hide b1
        clear x1 y1 b1 cx fx X0 Y0 B0
        obtain ⟨cx, fx, gx⟩ := unhide X1
        obtain ⟨cy, fy, gy⟩ := unhide Y1
        clear gx gy
        go_upto_region 5 with fail
        go_cut [5] (fun x5 wx => x5 = .bool (decide (nn < 10000)) ∧ Box wx (w.heap.size + 1) #[.int .u8 69, .int .i64 kk, .int .i64 nn, .int .i64 0, .int .i64 0, .string ⟨#[]⟩, .string ⟨#[]⟩, .int .i64 0, .int .i64 0, .int .i64 0, .bool false, .bool false, .int .i64 (Code.byt t 7 : Nat), .int .i64 (Code.byt t 8 : Nat), .bool (((Code.byt t 9 : Nat) : Int) == 1)] ∧ Below w.heap.size w wx)
        case first =>
          go_region_held3 (fun u => u.cell? ⟨w.heap.size, 0, none⟩ = some (.int .u8 69) ∧ u.cell? ⟨w.heap.size, 1, none⟩ = some (.int .i64 kk) ∧ u.cell? ⟨w.heap.size, 2, none⟩ = some (.int .i64 nn) ∧ u.cell? ⟨w.heap.size, 3, none⟩ = some (.int .i64 0) ∧ u.cell? ⟨w.heap.size, 4, none⟩ = some (.int .i64 0) ∧ u.cell? ⟨w.heap.size, 5, none⟩ = some (.string ⟨#[]⟩) ∧ u.cell? ⟨w.heap.size, 6, none⟩ = some (.string ⟨#[]⟩) ∧ u.cell? ⟨w.heap.size, 7, none⟩ = some (.int .i64 0) ∧ u.cell? ⟨w.heap.size, 8, none⟩ = some (.int .i64 0) ∧ u.cell? ⟨w.heap.size, 9, none⟩ = some (.int .i64 0) ∧ u.cell? ⟨w.heap.size, 10, none⟩ = some (.bool false) ∧ u.cell? ⟨w.heap.size, 11, none⟩ = some (.bool false) ∧ u.cell? ⟨w.heap.size, 12, none⟩ = some (.int .i64 (Code.byt t 7 : Nat)) ∧ u.cell? ⟨w.heap.size, 13, none⟩ = some (.int .i64 (Code.byt t 8 : Nat)) ∧ u.cell? ⟨w.heap.size, 14, none⟩ = some (.bool (((Code.byt t 9 : Nat) : Int) == 1))) (first | go_keep | (go_simp; done)) (fail)
          all_goals
            go_wp2_with fail
            go_meet
            case rel =>
              refine ⟨rfl, ((unhide Y1).putF _ _ _ _ _ _ _ _ _ _ _ _ _ _ _).drew, Below.drew ?_⟩
              repeat (refine Below.setCell ?_ (by simp) _)
              exact unhide B1
        case rest =>
          obtain ⟨rfl, y2, b2⟩ := hcut
          have B2 := hide b2
          clear cx fx cy fy b2
          obtain ⟨cz, fz, gz⟩ := y2
          go_wp2_with fail
          refine bodyPost_ret (v := .tuple #[.agg #[.int .u8 69, .int .i64 kk, .int .i64 nn, .int .i64 0, .int .i64 0, .string ⟨#[]⟩, .string ⟨#[]⟩, .int .i64 0, .int .i64 0, .int .i64 0, .bool false, .bool false, .int .i64 (Code.byt t 7 : Nat), .int .i64 (Code.byt t 8 : Nat), .bool (((Code.byt t 9 : Nat) : Int) == 1)], .bool (decide (nn < 10000))]) (by simp [results, Tryz.results110, go_sem, cz]) rfl ⟨_, rfl, fun _ => (unhide HE).symm, (unhide HE) ▸ unhide HW, unhide B2⟩
  · have d3 : decide (Code.byt t 9 ≤ 1) = false := by simp [h3]
    have h3' : (1 : Int) < ((Code.byt t 9 : Nat) : Int) := by omega
    simp only [d3, Bool.false_and]
    go_enter Tryz.func110, Tryz.ntmps110
    go_wp2_with fail
    refine bodyPost_ret (v := .tuple #[.agg #[.int .u8 0, .int .i64 0, .int .i64 0, .int .i64 0, .int .i64 0, .string ⟨#[]⟩, .string ⟨#[]⟩, .int .i64 0, .int .i64 0, .int .i64 0, .bool false, .bool false, .int .i64 0, .int .i64 0, .bool false], .bool false]) (by simp [results, Tryz.results110, go_sem]) rfl ⟨_, rfl, (fun h => by cases h), ⟨0, 0, 0, Mach.zero, Hist.noCh, rfl⟩, ?_⟩
    exact ((Below.refl _ _).alloc (Nat.le_refl _) _).alloc (by simp) _
end Go.Proofs.YtcmoffiigpchiaaGreat

namespace Go.Proofs.YtcmoffiigpchiaaGreat
open Go.RowKit

theorem sum_ne (a b : Nat) (h : ¬ a = b) : (((a : Nat) : Int) != (b : Nat)) = true := by
  have : ¬ ((a : Nat) : Int) = (b : Nat) := by omega
  simp [this]
theorem sum_eq (a b : Nat) (h : a = b) : (((a : Nat) : Int) != (b : Nat)) = false := by simp [h]

set_option maxRecDepth 100000 in
set_option maxHeartbeats 4000000 in
theorem read_c (t : ByteArray) (ht : t.size = 40) (hs : Crc.sum (t.extract 0 36).data.toList = Hist.sumOf t) (h0 : Code.byt t 0 = 67) (w : World) :
    Calls Tryz.prog 83 #[.string t] w fun e w' => ∃ v, e = .returned (.tuple #[v, .bool (Hist.read t).isSome]) ∧ (∀ en, Hist.read t = some en → v = en.fval) ∧ (∃ kd k n s c, v = fv kd k n s c) ∧ Below w.heap.size w w' := by
  have hf0 := Code.byt_eq t 0 (by omega)
  have hl0 := Code.byt_lt t 0
  have H1 := hide (fun w => sum_code (t.extract 0 36) w (by rw [size_ex t (by omega)]; unfold maxLen; omega))
  have H2 := hide (value_code (t.extract 36 40) (by rw [size_ex t (by omega)]; omega))
  rw [show Frame.highN (t.extract 36 40) = Hist.sumOf t from rfl] at H2
  have H3 := hide (value_code (t.extract 1 3) (by rw [size_ex t (by omega)]; omega))
  have H4 := hide (value_code (t.extract 3 7) (by rw [size_ex t (by omega)]; omega))
  rw [show Frame.highN (t.extract 1 3) = Hist.numOf t from rfl] at H3
  rw [show Frame.highN (t.extract 3 7) = Hist.nOf t from rfl] at H4
  have hso : Hist.sumOk t = true := decide_eq_true hs
  have hc := sum_eq _ _ hs
  have HS := hide (readState_code t ht)
  have hrd : Hid (Hist.read t = if (decide (Code.byt t 32 ≤ 3) && Hist.nought t 33 36 && Mach.legal (Hist.stOf t)) = true then some (Hist.enC t) else none) := hide (by
    rw [Hist.read_C h0]
    simp [Hist.okC, hso, h0])
  generalize Hist.read t = rd at *
  generalize Crc.sum (t.extract 0 36).data.toList = c1 at *
  generalize Hist.sumOf t = c2 at *
  generalize Hist.enC t = enc at *
  generalize (decide (Code.byt t 32 ≤ 3) && Hist.nought t 33 36 && Mach.legal (Hist.stOf t)) = o1 at *
  generalize ((Hist.numOf t : Nat) : Int) = kk at *
  generalize ((Hist.nOf t : Nat) : Int) = nn at *
  have H0 := hide h0
  clear hso hs h0
  go_enter Tryz.func83, Tryz.ntmps83
  go_wp2_with fail
  refine (unhide H1 _).mono ?_
  rintro e w' ⟨rfl, rfl⟩
  go_wp2_with fail
  refine (unhide H2 _).mono ?_
  rintro e w' ⟨rfl, rfl⟩
  go_wp2_with fail
  have X0 := hide (Box.new (w.alloc (.cells #[.int .u8 0, .int .i64 0, .int .i64 0, .int .i64 0, .int .i64 0, .string ⟨#[]⟩, .string ⟨#[]⟩, .int .i64 0, .int .i64 0, .int .i64 0, .bool false, .bool false, .int .i64 0, .int .i64 0, .bool false] 116)) #[.int .u8 (Code.byt t 0 : Nat), .int .i64 0, .int .i64 0, .int .i64 0, .int .i64 0, .string ⟨#[]⟩, .string ⟨#[]⟩, .int .i64 0, .int .i64 0, .int .i64 0, .bool false, .bool false, .int .i64 0, .int .i64 0, .bool false] 116)
  have Y0 := hide ((Box.new w #[.int .u8 0, .int .i64 0, .int .i64 0, .int .i64 0, .int .i64 0, .string ⟨#[]⟩, .string ⟨#[]⟩, .int .i64 0, .int .i64 0, .int .i64 0, .bool false, .bool false, .int .i64 0, .int .i64 0, .bool false] 116).alloc (.cells #[.int .u8 (Code.byt t 0 : Nat), .int .i64 0, .int .i64 0, .int .i64 0, .int .i64 0, .string ⟨#[]⟩, .string ⟨#[]⟩, .int .i64 0, .int .i64 0, .int .i64 0, .bool false, .bool false, .int .i64 0, .int .i64 0, .bool false] 116))
  have B0 := hide (((Below.refl w.heap.size w).alloc (Nat.le_refl _) (.cells #[.int .u8 0, .int .i64 0, .int .i64 0, .int .i64 0, .int .i64 0, .string ⟨#[]⟩, .string ⟨#[]⟩, .int .i64 0, .int .i64 0, .int .i64 0, .bool false, .bool false, .int .i64 0, .int .i64 0, .bool false] 116)).alloc (by simp) (.cells #[.int .u8 (Code.byt t 0 : Nat), .int .i64 0, .int .i64 0, .int .i64 0, .int .i64 0, .string ⟨#[]⟩, .string ⟨#[]⟩, .int .i64 0, .int .i64 0, .int .i64 0, .bool false, .bool false, .int .i64 0, .int .i64 0, .bool false] 116))
  rw [show (w.alloc (.cells #[.int .u8 0, .int .i64 0, .int .i64 0, .int .i64 0, .int .i64 0, .string ⟨#[]⟩, .string ⟨#[]⟩, .int .i64 0, .int .i64 0, .int .i64 0, .bool false, .bool false, .int .i64 0, .int .i64 0, .bool false] 116)).heap.size = w.heap.size + 1 by simp] at X0
  generalize (w.alloc (.cells #[.int .u8 0, .int .i64 0, .int .i64 0, .int .i64 0, .int .i64 0, .string ⟨#[]⟩, .string ⟨#[]⟩, .int .i64 0, .int .i64 0, .int .i64 0, .bool false, .bool false, .int .i64 0, .int .i64 0, .bool false] 116)).alloc (.cells #[.int .u8 (Code.byt t 0 : Nat), .int .i64 0, .int .i64 0, .int .i64 0, .int .i64 0, .string ⟨#[]⟩, .string ⟨#[]⟩, .int .i64 0, .int .i64 0, .int .i64 0, .bool false, .bool false, .int .i64 0, .int .i64 0, .bool false] 116) = wy at *
  obtain ⟨cx, fx, gx⟩ := unhide X0
  clear gx
  refine (unhide H3 _).mono ?_
  rintro e w' ⟨rfl, hw⟩
  obtain rfl := hw.symm
  go_wp2_with fail
  refine (unhide H4 _).mono ?_
  rintro e w' ⟨rfl, hw⟩
  obtain rfl := hw.symm
  go_upto_region 10 with fail
  have X2 := hide (((unhide X0).set 1 (.int .i64 kk) (by simp)).set 2 (.int .i64 nn) (by simp))
  have Y2 : Hid (Box ((wy.setCell ⟨w.heap.size + 1, 1, none⟩ (.int .i64 kk)).setCell ⟨w.heap.size + 1, 2, none⟩ (.int .i64 nn)) w.heap.size #[.int .u8 0, .int .i64 0, .int .i64 0, .int .i64 0, .int .i64 0, .string ⟨#[]⟩, .string ⟨#[]⟩, .int .i64 0, .int .i64 0, .int .i64 0, .bool false, .bool false, .int .i64 0, .int .i64 0, .bool false]) := hide (Box.off (Box.off (unhide Y0) (by simp) _) (by simp) _)
  have B2 := hide (((unhide B0).setCell (p := ⟨w.heap.size + 1, 1, none⟩) (by simp) (.int .i64 kk)).setCell (p := ⟨w.heap.size + 1, 2, none⟩) (by simp) (.int .i64 nn))
  generalize (wy.setCell ⟨w.heap.size + 1, 1, none⟩ (.int .i64 kk)).setCell ⟨w.heap.size + 1, 2, none⟩ (.int .i64 nn) = wz at *
  rw [show ((#[.int .u8 (Code.byt t 0 : Nat), .int .i64 0, .int .i64 0, .int .i64 0, .int .i64 0, .string ⟨#[]⟩, .string ⟨#[]⟩, .int .i64 0, .int .i64 0, .int .i64 0, .bool false, .bool false, .int .i64 0, .int .i64 0, .bool false] : Array Value).setIfInBounds 1 (.int .i64 kk)).setIfInBounds 2 (.int .i64 nn) = #[.int .u8 (Code.byt t 0 : Nat), .int .i64 kk, .int .i64 nn, .int .i64 0, .int .i64 0, .string ⟨#[]⟩, .string ⟨#[]⟩, .int .i64 0, .int .i64 0, .int .i64 0, .bool false, .bool false, .int .i64 0, .int .i64 0, .bool false] by simp] at X2
  clear cx fx X0 Y0 B0 H1 H2 H3 H4
  have f0c : ((Code.byt t 0 : Nat) : Int) = 67 := by have := unhide H0; omega
  have X3 : Hid (Box wz (w.heap.size + 1) #[.int .u8 67, .int .i64 kk, .int .i64 nn, .int .i64 0, .int .i64 0, .string ⟨#[]⟩, .string ⟨#[]⟩, .int .i64 0, .int .i64 0, .int .i64 0, .bool false, .bool false, .int .i64 0, .int .i64 0, .bool false]) := by rw [← f0c]; exact X2
  obtain ⟨cx, fx, gx⟩ := unhide X3
  clear gx X2
  go_wp2_with fail
  refine (unhide HS _).mono ?_
  rintro e w5 ⟨v, rfl, hv, ⟨kd, k, n, ⟨sn, pc, regs, cells, clock, handler, back, pending, halted⟩, ⟨input, ticks, interrupt⟩, rfl⟩, hb⟩
  have HV := hide hv
  have Y5 := hide ((unhide Y2).next hb)
  have B5 := hide ((unhide B2).trans (hb.mono (unhide B2).size))
  clear hv hb cx fx
  obtain ⟨cy, fy, gy⟩ := unhide Y5
  clear gy
  have cz := ((unhide Y5).putF (.int .u8 kd) (.int .i64 k) (.int .i64 n) (.int .i64 sn) (.int .i64 pc) (.string regs) (.string cells) (.int .i64 clock) (.int .i64 handler) (.int .i64 back) (.bool pending) (.bool halted) (.int .i64 input) (.int .i64 ticks) (.bool interrupt)).c
  go_wp2_with fail
  refine bodyPost_ret (v := .tuple #[.agg #[.int .u8 kd, .int .i64 k, .int .i64 n, .int .i64 sn, .int .i64 pc, .string regs, .string cells, .int .i64 clock, .int .i64 handler, .int .i64 back, .bool pending, .bool halted, .int .i64 input, .int .i64 ticks, .bool interrupt], .bool o1]) (by simp [results, Tryz.results83, go_sem, cz]) rfl ⟨_, by rw [unhide hrd]; cases o1 <;> rfl, fun en hen => ?_, ⟨kd, k, n, ⟨sn, pc, regs, cells, clock, handler, back, pending, halted⟩, ⟨input, ticks, interrupt⟩, rfl⟩, ?_⟩
  · rw [unhide hrd] at hen
    split at hen
    · rename_i ho
      cases hen
      exact unhide HV ho
    · cases hen
  · repeat (refine Below.setCell ?_ (by simp) _)
    exact unhide B5
end Go.Proofs.YtcmoffiigpchiaaGreat

namespace Go.Proofs.YtcmoffiigpchiaaGreat
open Go.RowKit

set_option maxRecDepth 100000 in
set_option maxHeartbeats 4000000 in
theorem read_e (t : ByteArray) (ht : t.size = 40) (hs : Crc.sum (t.extract 0 36).data.toList = Hist.sumOf t) (h0 : Code.byt t 0 = 69) (w : World) :
    Calls Tryz.prog 83 #[.string t] w fun e w' => ∃ v, e = .returned (.tuple #[v, .bool (Hist.read t).isSome]) ∧ (∀ en, Hist.read t = some en → v = en.fval) ∧ (∃ kd k n s c, v = fv kd k n s c) ∧ Below w.heap.size w w' := by
  have hf0 := Code.byt_eq t 0 (by omega)
  have hl0 := Code.byt_lt t 0
  have H1 := hide (fun w => sum_code (t.extract 0 36) w (by rw [size_ex t (by omega)]; unfold maxLen; omega))
  have H2 := hide (value_code (t.extract 36 40) (by rw [size_ex t (by omega)]; omega))
  rw [show Frame.highN (t.extract 36 40) = Hist.sumOf t from rfl] at H2
  have H3 := hide (value_code (t.extract 1 3) (by rw [size_ex t (by omega)]; omega))
  have H4 := hide (value_code (t.extract 3 7) (by rw [size_ex t (by omega)]; omega))
  rw [show Frame.highN (t.extract 1 3) = Hist.numOf t from rfl] at H3
  rw [show Frame.highN (t.extract 3 7) = Hist.nOf t from rfl] at H4
  have hso : Hist.sumOk t = true := decide_eq_true hs
  have hc := sum_eq _ _ hs
  have HS := hide (readChoice_code t ht)
  have hrd : Hid (Hist.read t = if (decide (Code.byt t 9 ≤ 1) && Hist.nought t 10 36 && decide (Hist.nOf t < 10000)) = true then some (Hist.enE t) else none) := hide (by
    rw [Hist.read_E (by omega)]
    simp [Hist.okE, hso, h0])
  generalize Hist.read t = rd at *
  generalize Crc.sum (t.extract 0 36).data.toList = c1 at *
  generalize Hist.sumOf t = c2 at *
  generalize Hist.enE t = enc at *
  generalize (decide (Code.byt t 9 ≤ 1) && Hist.nought t 10 36 && decide (Hist.nOf t < 10000)) = o1 at *
  generalize ((Hist.numOf t : Nat) : Int) = kk at *
  generalize ((Hist.nOf t : Nat) : Int) = nn at *
  have H0 := hide h0
  clear hso hs h0
  go_enter Tryz.func83, Tryz.ntmps83
  go_wp2_with fail
  refine (unhide H1 _).mono ?_
  rintro e w' ⟨rfl, rfl⟩
  go_wp2_with fail
  refine (unhide H2 _).mono ?_
  rintro e w' ⟨rfl, rfl⟩
  go_wp2_with fail
  have X0 := hide (Box.new (w.alloc (.cells #[.int .u8 0, .int .i64 0, .int .i64 0, .int .i64 0, .int .i64 0, .string ⟨#[]⟩, .string ⟨#[]⟩, .int .i64 0, .int .i64 0, .int .i64 0, .bool false, .bool false, .int .i64 0, .int .i64 0, .bool false] 116)) #[.int .u8 (Code.byt t 0 : Nat), .int .i64 0, .int .i64 0, .int .i64 0, .int .i64 0, .string ⟨#[]⟩, .string ⟨#[]⟩, .int .i64 0, .int .i64 0, .int .i64 0, .bool false, .bool false, .int .i64 0, .int .i64 0, .bool false] 116)
  have Y0 := hide ((Box.new w #[.int .u8 0, .int .i64 0, .int .i64 0, .int .i64 0, .int .i64 0, .string ⟨#[]⟩, .string ⟨#[]⟩, .int .i64 0, .int .i64 0, .int .i64 0, .bool false, .bool false, .int .i64 0, .int .i64 0, .bool false] 116).alloc (.cells #[.int .u8 (Code.byt t 0 : Nat), .int .i64 0, .int .i64 0, .int .i64 0, .int .i64 0, .string ⟨#[]⟩, .string ⟨#[]⟩, .int .i64 0, .int .i64 0, .int .i64 0, .bool false, .bool false, .int .i64 0, .int .i64 0, .bool false] 116))
  have B0 := hide (((Below.refl w.heap.size w).alloc (Nat.le_refl _) (.cells #[.int .u8 0, .int .i64 0, .int .i64 0, .int .i64 0, .int .i64 0, .string ⟨#[]⟩, .string ⟨#[]⟩, .int .i64 0, .int .i64 0, .int .i64 0, .bool false, .bool false, .int .i64 0, .int .i64 0, .bool false] 116)).alloc (by simp) (.cells #[.int .u8 (Code.byt t 0 : Nat), .int .i64 0, .int .i64 0, .int .i64 0, .int .i64 0, .string ⟨#[]⟩, .string ⟨#[]⟩, .int .i64 0, .int .i64 0, .int .i64 0, .bool false, .bool false, .int .i64 0, .int .i64 0, .bool false] 116))
  rw [show (w.alloc (.cells #[.int .u8 0, .int .i64 0, .int .i64 0, .int .i64 0, .int .i64 0, .string ⟨#[]⟩, .string ⟨#[]⟩, .int .i64 0, .int .i64 0, .int .i64 0, .bool false, .bool false, .int .i64 0, .int .i64 0, .bool false] 116)).heap.size = w.heap.size + 1 by simp] at X0
  generalize (w.alloc (.cells #[.int .u8 0, .int .i64 0, .int .i64 0, .int .i64 0, .int .i64 0, .string ⟨#[]⟩, .string ⟨#[]⟩, .int .i64 0, .int .i64 0, .int .i64 0, .bool false, .bool false, .int .i64 0, .int .i64 0, .bool false] 116)).alloc (.cells #[.int .u8 (Code.byt t 0 : Nat), .int .i64 0, .int .i64 0, .int .i64 0, .int .i64 0, .string ⟨#[]⟩, .string ⟨#[]⟩, .int .i64 0, .int .i64 0, .int .i64 0, .bool false, .bool false, .int .i64 0, .int .i64 0, .bool false] 116) = wy at *
  obtain ⟨cx, fx, gx⟩ := unhide X0
  clear gx
  refine (unhide H3 _).mono ?_
  rintro e w' ⟨rfl, hw⟩
  obtain rfl := hw.symm
  go_wp2_with fail
  refine (unhide H4 _).mono ?_
  rintro e w' ⟨rfl, hw⟩
  obtain rfl := hw.symm
  go_upto_region 10 with fail
  have X2 := hide (((unhide X0).set 1 (.int .i64 kk) (by simp)).set 2 (.int .i64 nn) (by simp))
  have Y2 : Hid (Box ((wy.setCell ⟨w.heap.size + 1, 1, none⟩ (.int .i64 kk)).setCell ⟨w.heap.size + 1, 2, none⟩ (.int .i64 nn)) w.heap.size #[.int .u8 0, .int .i64 0, .int .i64 0, .int .i64 0, .int .i64 0, .string ⟨#[]⟩, .string ⟨#[]⟩, .int .i64 0, .int .i64 0, .int .i64 0, .bool false, .bool false, .int .i64 0, .int .i64 0, .bool false]) := hide (Box.off (Box.off (unhide Y0) (by simp) _) (by simp) _)
  have B2 := hide (((unhide B0).setCell (p := ⟨w.heap.size + 1, 1, none⟩) (by simp) (.int .i64 kk)).setCell (p := ⟨w.heap.size + 1, 2, none⟩) (by simp) (.int .i64 nn))
  generalize (wy.setCell ⟨w.heap.size + 1, 1, none⟩ (.int .i64 kk)).setCell ⟨w.heap.size + 1, 2, none⟩ (.int .i64 nn) = wz at *
  rw [show ((#[.int .u8 (Code.byt t 0 : Nat), .int .i64 0, .int .i64 0, .int .i64 0, .int .i64 0, .string ⟨#[]⟩, .string ⟨#[]⟩, .int .i64 0, .int .i64 0, .int .i64 0, .bool false, .bool false, .int .i64 0, .int .i64 0, .bool false] : Array Value).setIfInBounds 1 (.int .i64 kk)).setIfInBounds 2 (.int .i64 nn) = #[.int .u8 (Code.byt t 0 : Nat), .int .i64 kk, .int .i64 nn, .int .i64 0, .int .i64 0, .string ⟨#[]⟩, .string ⟨#[]⟩, .int .i64 0, .int .i64 0, .int .i64 0, .bool false, .bool false, .int .i64 0, .int .i64 0, .bool false] by simp] at X2
  clear cx fx X0 Y0 B0 H1 H2 H3 H4
  have f0c : ((Code.byt t 0 : Nat) : Int) = 69 := by have := unhide H0; omega
  have X3 : Hid (Box wz (w.heap.size + 1) #[.int .u8 69, .int .i64 kk, .int .i64 nn, .int .i64 0, .int .i64 0, .string ⟨#[]⟩, .string ⟨#[]⟩, .int .i64 0, .int .i64 0, .int .i64 0, .bool false, .bool false, .int .i64 0, .int .i64 0, .bool false]) := by rw [← f0c]; exact X2
  obtain ⟨cx, fx, gx⟩ := unhide X3
  clear gx X2
  go_wp2_with fail
  refine (unhide HS _).mono ?_
  rintro e w5 ⟨v, rfl, hv, ⟨kd, k, n, ⟨sn, pc, regs, cells, clock, handler, back, pending, halted⟩, ⟨input, ticks, interrupt⟩, rfl⟩, hb⟩
  have HV := hide hv
  have Y5 := hide ((unhide Y2).next hb)
  have B5 := hide ((unhide B2).trans (hb.mono (unhide B2).size))
  clear hv hb cx fx
  obtain ⟨cy, fy, gy⟩ := unhide Y5
  clear gy
  have cz := ((unhide Y5).putF (.int .u8 kd) (.int .i64 k) (.int .i64 n) (.int .i64 sn) (.int .i64 pc) (.string regs) (.string cells) (.int .i64 clock) (.int .i64 handler) (.int .i64 back) (.bool pending) (.bool halted) (.int .i64 input) (.int .i64 ticks) (.bool interrupt)).c
  go_wp2_with fail
  refine bodyPost_ret (v := .tuple #[.agg #[.int .u8 kd, .int .i64 k, .int .i64 n, .int .i64 sn, .int .i64 pc, .string regs, .string cells, .int .i64 clock, .int .i64 handler, .int .i64 back, .bool pending, .bool halted, .int .i64 input, .int .i64 ticks, .bool interrupt], .bool o1]) (by simp [results, Tryz.results83, go_sem, cz]) rfl ⟨_, by rw [unhide hrd]; cases o1 <;> rfl, fun en hen => ?_, ⟨kd, k, n, ⟨sn, pc, regs, cells, clock, handler, back, pending, halted⟩, ⟨input, ticks, interrupt⟩, rfl⟩, ?_⟩
  · rw [unhide hrd] at hen
    split at hen
    · rename_i ho
      cases hen
      exact unhide HV ho
    · cases hen
  · repeat (refine Below.setCell ?_ (by simp) _)
    exact unhide B5
set_option maxRecDepth 100000 in
set_option maxHeartbeats 4000000 in
theorem read_other (t : ByteArray) (ht : t.size = 40) (hs : Crc.sum (t.extract 0 36).data.toList = Hist.sumOf t) (h0 : ¬ Code.byt t 0 = 67) (h1 : ¬ Code.byt t 0 = 69) (w : World) :
    Calls Tryz.prog 83 #[.string t] w fun e w' => ∃ v, e = .returned (.tuple #[v, .bool (Hist.read t).isSome]) ∧ (∀ en, Hist.read t = some en → v = en.fval) ∧ (∃ kd k n s c, v = fv kd k n s c) ∧ Below w.heap.size w w' := by
  have hf0 := Code.byt_eq t 0 (by omega)
  have hl0 := Code.byt_lt t 0
  have H1 := hide (fun w => sum_code (t.extract 0 36) w (by rw [size_ex t (by omega)]; unfold maxLen; omega))
  have H2 := hide (value_code (t.extract 36 40) (by rw [size_ex t (by omega)]; omega))
  rw [show Frame.highN (t.extract 36 40) = Hist.sumOf t from rfl] at H2
  have H3 := hide (value_code (t.extract 1 3) (by rw [size_ex t (by omega)]; omega))
  have H4 := hide (value_code (t.extract 3 7) (by rw [size_ex t (by omega)]; omega))
  rw [show Frame.highN (t.extract 1 3) = Hist.numOf t from rfl] at H3
  rw [show Frame.highN (t.extract 3 7) = Hist.nOf t from rfl] at H4
  have hc := sum_eq _ _ hs
  have hr : Hist.read t = none := by
    rw [Hist.read_E h0]
    simp [Hist.okE, h1]
  rw [hr]
  generalize Crc.sum (t.extract 0 36).data.toList = c1 at *
  generalize Hist.sumOf t = c2 at *
  generalize ((Hist.numOf t : Nat) : Int) = kk at *
  generalize ((Hist.nOf t : Nat) : Int) = nn at *
  clear hs hr
  go_enter Tryz.func83, Tryz.ntmps83
  go_wp2_with fail
  refine (unhide H1 _).mono ?_
  rintro e w' ⟨rfl, rfl⟩
  go_wp2_with fail
  refine (unhide H2 _).mono ?_
  rintro e w' ⟨rfl, rfl⟩
  go_wp2_with fail
  have X0 := hide (Box.new (w.alloc (.cells #[.int .u8 0, .int .i64 0, .int .i64 0, .int .i64 0, .int .i64 0, .string ⟨#[]⟩, .string ⟨#[]⟩, .int .i64 0, .int .i64 0, .int .i64 0, .bool false, .bool false, .int .i64 0, .int .i64 0, .bool false] 116)) #[.int .u8 (Code.byt t 0 : Nat), .int .i64 0, .int .i64 0, .int .i64 0, .int .i64 0, .string ⟨#[]⟩, .string ⟨#[]⟩, .int .i64 0, .int .i64 0, .int .i64 0, .bool false, .bool false, .int .i64 0, .int .i64 0, .bool false] 116)
  have Y0 := hide ((Box.new w #[.int .u8 0, .int .i64 0, .int .i64 0, .int .i64 0, .int .i64 0, .string ⟨#[]⟩, .string ⟨#[]⟩, .int .i64 0, .int .i64 0, .int .i64 0, .bool false, .bool false, .int .i64 0, .int .i64 0, .bool false] 116).alloc (.cells #[.int .u8 (Code.byt t 0 : Nat), .int .i64 0, .int .i64 0, .int .i64 0, .int .i64 0, .string ⟨#[]⟩, .string ⟨#[]⟩, .int .i64 0, .int .i64 0, .int .i64 0, .bool false, .bool false, .int .i64 0, .int .i64 0, .bool false] 116))
  have B0 := hide (((Below.refl w.heap.size w).alloc (Nat.le_refl _) (.cells #[.int .u8 0, .int .i64 0, .int .i64 0, .int .i64 0, .int .i64 0, .string ⟨#[]⟩, .string ⟨#[]⟩, .int .i64 0, .int .i64 0, .int .i64 0, .bool false, .bool false, .int .i64 0, .int .i64 0, .bool false] 116)).alloc (by simp) (.cells #[.int .u8 (Code.byt t 0 : Nat), .int .i64 0, .int .i64 0, .int .i64 0, .int .i64 0, .string ⟨#[]⟩, .string ⟨#[]⟩, .int .i64 0, .int .i64 0, .int .i64 0, .bool false, .bool false, .int .i64 0, .int .i64 0, .bool false] 116))
  rw [show (w.alloc (.cells #[.int .u8 0, .int .i64 0, .int .i64 0, .int .i64 0, .int .i64 0, .string ⟨#[]⟩, .string ⟨#[]⟩, .int .i64 0, .int .i64 0, .int .i64 0, .bool false, .bool false, .int .i64 0, .int .i64 0, .bool false] 116)).heap.size = w.heap.size + 1 by simp] at X0
  generalize (w.alloc (.cells #[.int .u8 0, .int .i64 0, .int .i64 0, .int .i64 0, .int .i64 0, .string ⟨#[]⟩, .string ⟨#[]⟩, .int .i64 0, .int .i64 0, .int .i64 0, .bool false, .bool false, .int .i64 0, .int .i64 0, .bool false] 116)).alloc (.cells #[.int .u8 (Code.byt t 0 : Nat), .int .i64 0, .int .i64 0, .int .i64 0, .int .i64 0, .string ⟨#[]⟩, .string ⟨#[]⟩, .int .i64 0, .int .i64 0, .int .i64 0, .bool false, .bool false, .int .i64 0, .int .i64 0, .bool false] 116) = wy at *
  obtain ⟨cx, fx, gx⟩ := unhide X0
  clear gx
  refine (unhide H3 _).mono ?_
  rintro e w' ⟨rfl, hw⟩
  obtain rfl := hw.symm
  go_wp2_with fail
  refine (unhide H4 _).mono ?_
  rintro e w' ⟨rfl, hw⟩
  obtain rfl := hw.symm
  go_upto_region 10 with fail
  have X2 := hide (((unhide X0).set 1 (.int .i64 kk) (by simp)).set 2 (.int .i64 nn) (by simp))
  have Y2 : Hid (Box ((wy.setCell ⟨w.heap.size + 1, 1, none⟩ (.int .i64 kk)).setCell ⟨w.heap.size + 1, 2, none⟩ (.int .i64 nn)) w.heap.size #[.int .u8 0, .int .i64 0, .int .i64 0, .int .i64 0, .int .i64 0, .string ⟨#[]⟩, .string ⟨#[]⟩, .int .i64 0, .int .i64 0, .int .i64 0, .bool false, .bool false, .int .i64 0, .int .i64 0, .bool false]) := hide (Box.off (Box.off (unhide Y0) (by simp) _) (by simp) _)
  have B2 := hide (((unhide B0).setCell (p := ⟨w.heap.size + 1, 1, none⟩) (by simp) (.int .i64 kk)).setCell (p := ⟨w.heap.size + 1, 2, none⟩) (by simp) (.int .i64 nn))
  generalize (wy.setCell ⟨w.heap.size + 1, 1, none⟩ (.int .i64 kk)).setCell ⟨w.heap.size + 1, 2, none⟩ (.int .i64 nn) = wz at *
  rw [show ((#[.int .u8 (Code.byt t 0 : Nat), .int .i64 0, .int .i64 0, .int .i64 0, .int .i64 0, .string ⟨#[]⟩, .string ⟨#[]⟩, .int .i64 0, .int .i64 0, .int .i64 0, .bool false, .bool false, .int .i64 0, .int .i64 0, .bool false] : Array Value).setIfInBounds 1 (.int .i64 kk)).setIfInBounds 2 (.int .i64 nn) = #[.int .u8 (Code.byt t 0 : Nat), .int .i64 kk, .int .i64 nn, .int .i64 0, .int .i64 0, .string ⟨#[]⟩, .string ⟨#[]⟩, .int .i64 0, .int .i64 0, .int .i64 0, .bool false, .bool false, .int .i64 0, .int .i64 0, .bool false] by simp] at X2
  clear cx fx X0 Y0 B0 H1 H2 H3 H4
  have f67 : ¬ ((Code.byt t 0 : Nat) : Int) = 67 := by omega
  have f69 : ¬ ((Code.byt t 0 : Nat) : Int) = 69 := by omega
  obtain ⟨cx, fx, gx⟩ := unhide X2
  obtain ⟨cy, fy, gy⟩ := unhide Y2
  clear gx gy
  have cz := ((unhide Y2).putF (.int .u8 0) (.int .i64 0) (.int .i64 0) (.int .i64 0) (.int .i64 0) (.string ⟨#[]⟩) (.string ⟨#[]⟩) (.int .i64 0) (.int .i64 0) (.int .i64 0) (.bool false) (.bool false) (.int .i64 0) (.int .i64 0) (.bool false)).c
  go_wp2_with fail
  refine bodyPost_ret (v := .tuple #[.agg #[.int .u8 0, .int .i64 0, .int .i64 0, .int .i64 0, .int .i64 0, .string ⟨#[]⟩, .string ⟨#[]⟩, .int .i64 0, .int .i64 0, .int .i64 0, .bool false, .bool false, .int .i64 0, .int .i64 0, .bool false], .bool false]) (by simp [results, Tryz.results83, go_sem, cz]) rfl ⟨_, rfl, (fun en hen => by cases hen), ⟨0, 0, 0, Mach.zero, Hist.noCh, rfl⟩, ?_⟩
  repeat (refine Below.setCell ?_ (by simp) _)
  exact unhide B2
set_option maxRecDepth 100000 in
set_option maxHeartbeats 4000000 in
theorem read_bad (t : ByteArray) (ht : t.size = 40) (hs : ¬ Crc.sum (t.extract 0 36).data.toList = Hist.sumOf t) (w : World) :
    Calls Tryz.prog 83 #[.string t] w fun e w' => ∃ v, e = .returned (.tuple #[v, .bool (Hist.read t).isSome]) ∧ (∀ en, Hist.read t = some en → v = en.fval) ∧ (∃ kd k n s c, v = fv kd k n s c) ∧ Below w.heap.size w w' := by
  have hf0 := Code.byt_eq t 0 (by omega)
  have hl0 := Code.byt_lt t 0
  have H1 := hide (fun w => sum_code (t.extract 0 36) w (by rw [size_ex t (by omega)]; unfold maxLen; omega))
  have H2 := hide (value_code (t.extract 36 40) (by rw [size_ex t (by omega)]; omega))
  rw [show Frame.highN (t.extract 36 40) = Hist.sumOf t from rfl] at H2
  have hso : Hist.sumOk t = false := decide_eq_false hs
  have hr : Hist.read t = none := by simp [Hist.read, Hist.okC, Hist.okE, hso]
  rw [hr]
  have hc := sum_ne _ _ hs
  generalize Crc.sum (t.extract 0 36).data.toList = c1 at *
  generalize Hist.sumOf t = c2 at *
  clear hs hso hr
  go_enter Tryz.func83, Tryz.ntmps83
  go_wp2_with fail
  refine (unhide H1 _).mono ?_
  rintro e w' ⟨rfl, rfl⟩
  go_wp2_with fail
  refine (unhide H2 _).mono ?_
  rintro e w' ⟨rfl, rfl⟩
  go_wp2_with fail
  refine bodyPost_ret (v := .tuple #[.agg #[.int .u8 0, .int .i64 0, .int .i64 0, .int .i64 0, .int .i64 0, .string ⟨#[]⟩, .string ⟨#[]⟩, .int .i64 0, .int .i64 0, .int .i64 0, .bool false, .bool false, .int .i64 0, .int .i64 0, .bool false], .bool false]) (by simp [results, Tryz.results83, go_sem]) rfl ⟨_, rfl, (fun en h => by cases h), ⟨0, 0, 0, Mach.zero, Hist.noCh, rfl⟩, ?_⟩
  exact (Below.refl _ _).alloc (Nat.le_refl _) _
theorem read_code (t : ByteArray) (ht : t.size = 40) (w : World) :
    Calls Tryz.prog 83 #[.string t] w fun e w' => ∃ v, e = .returned (.tuple #[v, .bool (Hist.read t).isSome]) ∧ (∀ en, Hist.read t = some en → v = en.fval) ∧ (∃ kd k n s c, v = fv kd k n s c) ∧ Below w.heap.size w w' := by
  by_cases hs : Crc.sum (t.extract 0 36).data.toList = Hist.sumOf t
  · by_cases h0 : Code.byt t 0 = 67
    · exact read_c t ht hs h0 w
    · by_cases h1 : Code.byt t 0 = 69
      · exact read_e t ht hs h1 w
      · exact read_other t ht hs h0 h1 w
  · exact read_bad t ht hs w
end Go.Proofs.YtcmoffiigpchiaaGreat
