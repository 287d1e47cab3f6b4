import Derived.Test.YtcmoffiigpchiaaGreatBoxW
import Derived.Test.YtcmoffiigpchiaaGreatRdB
import Derived.Test.YtcmoffiigpchiaaGreatOfW
namespace Go.Proofs.YtcmoffiigpchiaaGreat
open Go.RowKit

theorem bytes_beq (a b : ByteArray) : (a.toList == b.toList) = decide (a = b) := by
  rw [ByteArray.toList_eq, ByteArray.toList_eq]
  by_cases h : a = b
  · simp [h]
  · have : ¬ a.data = b.data := fun e => h (ByteArray.ext e)
    simp [h, this]
/-- An entry, as the cells of the document's struct. -/
def Hist.En.ecells (e : Hist.En) : List Value := [.bool e.st, .int .i64 e.n, .int .i64 e.s.n, .int .i64 e.s.pc, .string e.s.regs, .string e.s.cells, .int .i64 e.s.clock, .int .i64 e.s.handler, .int .i64 e.s.back, .bool e.s.pending, .bool e.s.halted, .int .i64 e.c.input, .int .i64 e.c.ticks, .bool e.c.interrupt]
abbrev ev (st : Bool) (n : Int) (s : StV) (c : ChV) : Value := .agg #[.bool st, .int .i64 n, .int .i64 s.n, .int .i64 s.pc, .string s.regs, .string s.cells, .int .i64 s.clock, .int .i64 s.handler, .int .i64 s.back, .bool s.pending, .bool s.halted, .int .i64 c.input, .int .i64 c.ticks, .bool c.interrupt]
def Hist.En.eval (e : Hist.En) : Value := .agg e.ecells.toArray

set_option maxHeartbeats 1000000 in
theorem to_ref (e : Hist.En) (he : e.n ≤ 10000) (w : World) :
    Calls Tryz.prog 60 #[e.eval] w fun r w' => r = .returned (.int .i64 (e.to : Nat)) ∧ Below w.heap.size w w' := by
  obtain ⟨st, k, n, ⟨sn, pc, regs, cells, clock, handler, back, pending, halted⟩, ⟨input, ticks, interrupt⟩⟩ := e
  simp only at he
  cases st
  · simp only [Hist.En.eval, Hist.En.ecells, Hist.En.to]
    go_enter Tryz.func60, Tryz.ntmps60
    go_wp2
    go_ret
    exact ⟨by go_num, (Below.refl _ _).alloc (Nat.le_refl _) _⟩
  · simp only [Hist.En.eval, Hist.En.ecells, Hist.En.to]
    go_enter Tryz.func60, Tryz.ntmps60
    go_wp2
    go_ret
    exact ⟨by go_num, (Below.refl _ _).alloc (Nat.le_refl _) _⟩

theorem flag_beq (x : Nat) : decide (x % 2 = 1) = ((x : Int) % 2 == 1) ∧ decide (x / 2 % 2 = 1) = ((x : Int) / 2 % 2 == 1) := by
  constructor
  · have h : ((x : Int) % 2) = ((x % 2 : Nat) : Int) := by omega
    rw [h]
    rcases Nat.mod_two_eq_zero_or_one x with h | h <;> simp [h]
  · have h : ((x : Int) / 2 % 2) = ((x / 2 % 2 : Nat) : Int) := by omega
    rw [h]
    rcases Nat.mod_two_eq_zero_or_one (x / 2) with h | h <;> simp [h]

set_option maxRecDepth 100000 in
set_option maxHeartbeats 4000000 in
theorem state_ref (t : ByteArray) (ht : t.size = 40) (w : World) :
    Calls Tryz.prog 112 #[.string t] w fun e w' => e = .returned (.tuple #[(Hist.stOf t).val, .bool (Hist.okC t)]) ∧ Below w.heap.size w w' := by
  have hf32 := Code.byt_eq t 32 (by omega)
  have hf7 := Code.byt_eq t 7 (by omega)
  have hf30 := Code.byt_eq t 30 (by omega)
  have hf31 := Code.byt_eq t 31 (by omega)
  have hl7 := Code.byt_lt t 7
  have hl32 := Code.byt_lt t 32
  have hl30 := Code.byt_lt t 30
  have hl31 := Code.byt_lt t 31
  have H1 := hide (high_ref (t.extract 3 7) (by rw [size_ex t (by omega)]; omega))
  have H2 := hide (high_ref (t.extract 28 30) (by rw [size_ex t (by omega)]; omega))
  have H3 := hide (high_ref (t.extract 1 3) (by rw [size_ex t (by omega)]; omega))
  rw [show Frame.highN (t.extract 3 7) = Hist.nOf t from rfl] at H1
  rw [show Frame.highN (t.extract 28 30) = Hist.clkOf t from rfl] at H2
  rw [show Frame.highN (t.extract 1 3) = Hist.numOf t from rfl] at H3
  have hv7 : IntKind.i64.wrap ((Code.byt t 7 : Nat) : Int) = ((Code.byt t 7 : Nat) : Int) := i64_wrap_nat _ (by omega)
  have hv30 : IntKind.i64.wrap ((Code.byt t 30 : Nat) : Int) = ((Code.byt t 30 : Nat) : Int) := i64_wrap_nat _ (by omega)
  have hv31 : IntKind.i64.wrap ((Code.byt t 31 : Nat) : Int) = ((Code.byt t 31 : Nat) : Int) := i64_wrap_nat _ (by omega)
  have hw30 : IntKind.i64.wrap (((Code.byt t 30 : Nat) : Int) - 1) = ((Code.byt t 30 : Nat) : Int) - 1 := by simp [IntKind.wrap, IntKind.bits, IntKind.signed]; omega
  have hw31 : IntKind.i64.wrap (((Code.byt t 31 : Nat) : Int) - 1) = ((Code.byt t 31 : Nat) : Int) - 1 := by simp [IntKind.wrap, IntKind.bits, IntKind.signed]; omega
  have HL := hide (legal_ref (Hist.stOf t))
  have HO : Hid (Mach.legal (Hist.stOf t) = true → ∀ w, _) := hide (fun hl => ofState_ref (Hist.numOf t) (by have := Hist.numOf_lt ht; omega) (Hist.stOf t) ((Mach.legal_iff _).1 hl))
  have HK := hide (Hist.ofState_not ht)
  have hst : (Hist.stOf t).val = .agg #[.int .i64 (Hist.nOf t : Nat), .int .i64 (Code.byt t 7 : Nat), .string (t.extract 8 12), .string (t.extract 12 28), .int .i64 (Hist.clkOf t : Nat), .int .i64 ((Code.byt t 30 : Int) - 1), .int .i64 ((Code.byt t 31 : Int) - 1), .bool (((Code.byt t 32 : Nat) : Int) % 2 == 1), .bool (((Code.byt t 32 : Nat) : Int) / 2 % 2 == 1)] := by rw [← (flag_beq (Code.byt t 32)).1, ← (flag_beq (Code.byt t 32)).2]; rfl
  rw [hst] at HL HO ⊢
  clear hst
  generalize Mach.legal (Hist.stOf t) = lg at *
  generalize Frame.ofState (Hist.numOf t) (Hist.stOf t) = fo at *
  generalize Hist.okC t = okc at *
  generalize ((Hist.nOf t : Nat) : Int) = nn at *
  generalize Hist.clkOf t = ck at *
  go_enter Tryz.func112, Tryz.ntmps112
  go_upto_region 1 with fail
  have X0 := hide (Box.new w #[.int .i64 0, .int .i64 0, .string ⟨#[]⟩, .string ⟨#[]⟩, .int .i64 0, .int .i64 0, .int .i64 0, .bool false, .bool false] 30)
  have B0 := hide ((Below.refl w.heap.size w).alloc (Nat.le_refl _) (.cells #[.int .i64 0, .int .i64 0, .string ⟨#[]⟩, .string ⟨#[]⟩, .int .i64 0, .int .i64 0, .int .i64 0, .bool false, .bool false] 30))
  have hz : (w.alloc (.cells #[.int .i64 0, .int .i64 0, .string ⟨#[]⟩, .string ⟨#[]⟩, .int .i64 0, .int .i64 0, .int .i64 0, .bool false, .bool false] 30)).heap.size = w.heap.size + 1 := by simp
  generalize w.alloc (.cells #[.int .i64 0, .int .i64 0, .string ⟨#[]⟩, .string ⟨#[]⟩, .int .i64 0, .int .i64 0, .int .i64 0, .bool false, .bool false] 30) = wy at *
  obtain ⟨cx, fx, gx⟩ := unhide X0
  go_cut [4] (fun x4 wx => x4 = .pointer (some ⟨w.heap.size + 1, 0, none⟩) ∧ Box wx (w.heap.size + 1) #[.int .i64 nn, .int .i64 (Code.byt t 7 : Nat), .string (t.extract 8 12), .string (t.extract 12 28), .int .i64 (ck : Nat), .int .i64 ((Code.byt t 30 : Int) - 1), .int .i64 ((Code.byt t 31 : Int) - 1), .bool false, .bool false] ∧ Box wx w.heap.size #[.int .i64 0, .int .i64 0, .string ⟨#[]⟩, .string ⟨#[]⟩, .int .i64 0, .int .i64 0, .int .i64 0, .bool false, .bool false] ∧ Below w.heap.size w wx)
  case first =>
    refine region_last2 23 (S := (fun _ => True)) _ rfl rfl (by kernel_rfl) (by kernel_rfl) (by trivial) (fun hHeld => ?_)
    simp only [List.pop_toArray, List.dropLast_cons_cons, List.dropLast_singleton]
    refine wpAnyH_take (i := 0) (v := ?_) rfl (by kernel_rfl) (by kernel_rfl) (by kernel_rfl) (fun _ _ _ h => h) (Or.inl ⟨by rfl, ?hy⟩) hHeld ?_
    case hy =>
      simp only [List.getElem_toArray, List.getElem_cons_zero]
      intro w' hSw
      (try dsimp only at hSw)
      go_simp
      with_reducible rfl
    simp only [List.getElem_toArray, List.getElem_cons_zero, Act.put, List.setIfInBounds_toArray, List.set_cons_zero, List.set_cons_succ]
    refine wpAnyH_take (i := 1) (v := ?_) rfl (by kernel_rfl) (by kernel_rfl) (by kernel_rfl) (fun _ _ _ h => h) (Or.inl ⟨by rfl, ?hy⟩) hHeld ?_
    case hy =>
      simp only [List.getElem_toArray, List.getElem_cons_succ, List.getElem_cons_zero]
      intro w' hSw
      (try dsimp only at hSw)
      go_simp
      with_reducible rfl
    simp only [List.getElem_toArray, List.getElem_cons_succ, List.getElem_cons_zero, Act.put, List.setIfInBounds_toArray, List.set_cons_zero, List.set_cons_succ]
    refine wpAnyH_take (i := 3) (v := ?_) rfl (by kernel_rfl) (by kernel_rfl) (by kernel_rfl) (fun _ _ _ h => h) (Or.inl ⟨by rfl, ?hy⟩) hHeld ?_
    case hy =>
      simp only [List.getElem_toArray, List.getElem_cons_succ, List.getElem_cons_zero]
      intro w' hSw
      (try dsimp only at hSw)
      go_simp
      with_reducible rfl
    simp only [List.getElem_toArray, List.getElem_cons_succ, List.getElem_cons_zero, Act.put, List.setIfInBounds_toArray, List.set_cons_zero, List.set_cons_succ]
    refine wpAnyH_take (i := 4) (v := ?_) rfl (by kernel_rfl) (by kernel_rfl) (by kernel_rfl) (fun _ _ _ h => h) (Or.inl ⟨by rfl, ?hy⟩) hHeld ?_
    case hy =>
      simp only [List.getElem_toArray, List.getElem_cons_succ, List.getElem_cons_zero]
      intro w' hSw
      (try dsimp only at hSw)
      go_simp
      with_reducible rfl
    simp only [List.getElem_toArray, List.getElem_cons_succ, List.getElem_cons_zero, Act.put, List.setIfInBounds_toArray, List.set_cons_zero, List.set_cons_succ]
    refine wpAnyH_take (i := 5) (v := ?_) rfl (by kernel_rfl) (by kernel_rfl) (by kernel_rfl) (fun _ _ _ h => h) (Or.inl ⟨by rfl, ?hy⟩) hHeld ?_
    case hy =>
      simp only [List.getElem_toArray, List.getElem_cons_succ, List.getElem_cons_zero]
      intro w' hSw
      (try dsimp only at hSw)
      go_simp
      with_reducible rfl
    simp only [List.getElem_toArray, List.getElem_cons_succ, List.getElem_cons_zero, Act.put, List.setIfInBounds_toArray, List.set_cons_zero, List.set_cons_succ]
    refine wpAnyH_take (i := 6) (v := ?_) rfl (by kernel_rfl) (by kernel_rfl) (by kernel_rfl) (fun _ _ _ h => h) (Or.inl ⟨by rfl, ?hy⟩) hHeld ?_
    case hy =>
      simp only [List.getElem_toArray, List.getElem_cons_succ, List.getElem_cons_zero]
      intro w' hSw
      (try dsimp only at hSw)
      go_simp
      with_reducible rfl
    simp only [List.getElem_toArray, List.getElem_cons_succ, List.getElem_cons_zero, Act.put, List.setIfInBounds_toArray, List.set_cons_zero, List.set_cons_succ]
    refine wpAnyH_take (i := 7) (v := ?_) rfl (by kernel_rfl) (by kernel_rfl) (by kernel_rfl) (fun _ _ _ h => h) (Or.inl ⟨by rfl, ?hy⟩) hHeld ?_
    case hy =>
      simp only [List.getElem_toArray, List.getElem_cons_succ, List.getElem_cons_zero]
      intro w' hSw
      (try dsimp only at hSw)
      go_simp
      with_reducible rfl
    simp only [List.getElem_toArray, List.getElem_cons_succ, List.getElem_cons_zero, Act.put, List.setIfInBounds_toArray, List.set_cons_zero, List.set_cons_succ]
    refine wpAnyH_take (i := 8) (v := ?_) rfl (by kernel_rfl) (by kernel_rfl) (by kernel_rfl) (fun _ _ _ h => h) (Or.inl ⟨by rfl, ?hy⟩) hHeld ?_
    case hy =>
      simp only [List.getElem_toArray, List.getElem_cons_succ, List.getElem_cons_zero]
      intro w' hSw
      (try dsimp only at hSw)
      go_simp
      with_reducible rfl
    simp only [List.getElem_toArray, List.getElem_cons_succ, List.getElem_cons_zero, Act.put, List.setIfInBounds_toArray, List.set_cons_zero, List.set_cons_succ]
    refine wpAnyH_take (i := 9) (v := ?_) rfl (by kernel_rfl) (by kernel_rfl) (by kernel_rfl) (fun _ _ _ h => h) (Or.inl ⟨by rfl, ?hy⟩) hHeld ?_
    case hy =>
      simp only [List.getElem_toArray, List.getElem_cons_succ, List.getElem_cons_zero]
      intro w' hSw
      (try dsimp only at hSw)
      go_simp
      with_reducible rfl
    simp only [List.getElem_toArray, List.getElem_cons_succ, List.getElem_cons_zero, Act.put, List.setIfInBounds_toArray, List.set_cons_zero, List.set_cons_succ]
    refine wpAnyH_take (i := 10) (v := ?_) rfl (by kernel_rfl) (by kernel_rfl) (by kernel_rfl) (fun _ _ _ h => h) (Or.inl ⟨by rfl, ?hy⟩) hHeld ?_
    case hy =>
      simp only [List.getElem_toArray, List.getElem_cons_succ, List.getElem_cons_zero]
      intro w' hSw
      (try dsimp only at hSw)
      go_simp
      with_reducible rfl
    simp only [List.getElem_toArray, List.getElem_cons_succ, List.getElem_cons_zero, Act.put, List.setIfInBounds_toArray, List.set_cons_zero, List.set_cons_succ]
    refine wpAnyH_take (i := 11) (v := ?_) rfl (by kernel_rfl) (by kernel_rfl) (by kernel_rfl) (fun _ _ _ h => h) (Or.inl ⟨by rfl, ?hy⟩) hHeld ?_
    case hy =>
      simp only [List.getElem_toArray, List.getElem_cons_succ, List.getElem_cons_zero]
      intro w' hSw
      (try dsimp only at hSw)
      go_simp
      with_reducible rfl
    simp only [List.getElem_toArray, List.getElem_cons_succ, List.getElem_cons_zero, Act.put, List.setIfInBounds_toArray, List.set_cons_zero, List.set_cons_succ]
    refine wpAnyH_take (i := 13) (v := ?_) rfl (by kernel_rfl) (by kernel_rfl) (by kernel_rfl) (fun _ _ _ h => h) (Or.inl ⟨by rfl, ?hy⟩) hHeld ?_
    case hy =>
      simp only [List.getElem_toArray, List.getElem_cons_succ, List.getElem_cons_zero]
      intro w' hSw
      (try dsimp only at hSw)
      go_simp
      with_reducible rfl
    simp only [List.getElem_toArray, List.getElem_cons_succ, List.getElem_cons_zero, Act.put, List.setIfInBounds_toArray, List.set_cons_zero, List.set_cons_succ]
    refine wpAnyH_take (i := 14) (v := ?_) rfl (by kernel_rfl) (by kernel_rfl) (by kernel_rfl) (fun _ _ _ h => h) (Or.inl ⟨by rfl, ?hy⟩) hHeld ?_
    case hy =>
      simp only [List.getElem_toArray, List.getElem_cons_succ, List.getElem_cons_zero]
      intro w' hSw
      (try dsimp only at hSw)
      go_simp
      with_reducible rfl
    simp only [List.getElem_toArray, List.getElem_cons_succ, List.getElem_cons_zero, Act.put, List.setIfInBounds_toArray, List.set_cons_zero, List.set_cons_succ]
    refine wpAnyH_take (i := 15) (v := ?_) rfl (by kernel_rfl) (by kernel_rfl) (by kernel_rfl) (fun _ _ _ h => h) (Or.inl ⟨by rfl, ?hy⟩) hHeld ?_
    case hy =>
      simp only [List.getElem_toArray, List.getElem_cons_succ, List.getElem_cons_zero]
      intro w' hSw
      (try dsimp only at hSw)
      go_simp
      with_reducible rfl
    simp only [List.getElem_toArray, List.getElem_cons_succ, List.getElem_cons_zero, Act.put, List.setIfInBounds_toArray, List.set_cons_zero, List.set_cons_succ]
    refine wpAnyH_take (i := 16) (v := ?_) rfl (by kernel_rfl) (by kernel_rfl) (by kernel_rfl) (fun _ _ _ h => h) (Or.inl ⟨by rfl, ?hy⟩) hHeld ?_
    case hy =>
      simp only [List.getElem_toArray, List.getElem_cons_succ, List.getElem_cons_zero]
      intro w' hSw
      (try dsimp only at hSw)
      go_simp
      with_reducible rfl
    simp only [List.getElem_toArray, List.getElem_cons_succ, List.getElem_cons_zero, Act.put, List.setIfInBounds_toArray, List.set_cons_zero, List.set_cons_succ]
    refine wpAnyH_take (i := 17) (v := ?_) rfl (by kernel_rfl) (by kernel_rfl) (by kernel_rfl) (fun _ _ _ h => h) (Or.inl ⟨by rfl, ?hy⟩) hHeld ?_
    case hy =>
      simp only [List.getElem_toArray, List.getElem_cons_succ, List.getElem_cons_zero]
      intro w' hSw
      (try dsimp only at hSw)
      go_simp
      with_reducible rfl
    simp only [List.getElem_toArray, List.getElem_cons_succ, List.getElem_cons_zero, Act.put, List.setIfInBounds_toArray, List.set_cons_zero, List.set_cons_succ]
    refine wpAnyH_take (i := 18) (v := ?_) rfl (by kernel_rfl) (by kernel_rfl) (by kernel_rfl) (fun _ _ _ h => h) (Or.inl ⟨by rfl, ?hy⟩) hHeld ?_
    case hy =>
      simp only [List.getElem_toArray, List.getElem_cons_succ, List.getElem_cons_zero]
      intro w' hSw
      (try dsimp only at hSw)
      go_simp
      with_reducible rfl
    simp only [List.getElem_toArray, List.getElem_cons_succ, List.getElem_cons_zero, Act.put, List.setIfInBounds_toArray, List.set_cons_zero, List.set_cons_succ]
    refine wpAnyH_take (i := 19) (v := ?_) rfl (by kernel_rfl) (by kernel_rfl) (by kernel_rfl) (fun _ _ _ h => h) (Or.inl ⟨by rfl, ?hy⟩) hHeld ?_
    case hy =>
      simp only [List.getElem_toArray, List.getElem_cons_succ, List.getElem_cons_zero]
      intro w' hSw
      (try dsimp only at hSw)
      go_simp
      with_reducible rfl
    simp only [List.getElem_toArray, List.getElem_cons_succ, List.getElem_cons_zero, Act.put, List.setIfInBounds_toArray, List.set_cons_zero, List.set_cons_succ]
    refine wpAnyH_take (i := 20) (v := ?_) rfl (by kernel_rfl) (by kernel_rfl) (by kernel_rfl) (fun _ _ _ h => h) (Or.inl ⟨by rfl, ?hy⟩) hHeld ?_
    case hy =>
      simp only [List.getElem_toArray, List.getElem_cons_succ, List.getElem_cons_zero]
      intro w' hSw
      (try dsimp only at hSw)
      go_simp
      with_reducible rfl
    simp only [List.getElem_toArray, List.getElem_cons_succ, List.getElem_cons_zero, Act.put, List.setIfInBounds_toArray, List.set_cons_zero, List.set_cons_succ]
    refine wpAnyH_ready (rs := [2, 22]) (by kernel_rfl) (by simp) ?_
    refine AllReadyH.cons rfl (fun K hK => ?_) (AllReadyH.cons rfl (fun K hK => ?_) AllReadyH.nil)
    · simp only [List.getElem_toArray, List.getElem_cons_succ, List.getElem_cons_zero]
      rw [if_pos (by simp [Region.wanted])]
      go_wp2_with (go_at_call 87; refine (unhide H1 _).mono ?_; rintro e w2 ⟨rfl, hw⟩; obtain rfl := hw.symm)
      refine hK.out _ _ (by trivial) (fun hH1 => ?_)
      clear hK K
      refine wpAnyH_ready (rs := [12, 22]) (by kernel_rfl) (by simp) ?_
      refine AllReadyH.cons rfl (fun K hK => ?_) (AllReadyH.cons rfl (fun K hK => ?_) AllReadyH.nil)
      · simp only [List.getElem_toArray, List.getElem_cons_succ, List.getElem_cons_zero]
        rw [if_pos (by simp [Region.wanted])]
        go_wp2_with (go_at_call 87; refine (unhide H2 _).mono ?_; rintro e w2 ⟨rfl, hw⟩; obtain rfl := hw.symm)
        refine hK.out _ _ (by trivial) (fun hH2 => ?_)
        clear hK K
        refine wpAnyH_take (i := 21) (v := ?_) rfl (by kernel_rfl) (by kernel_rfl) (by kernel_rfl) (fun _ _ _ h => h) (Or.inl ⟨by rfl, ?hy⟩) hH2 ?_
        case hy =>
          simp only [List.getElem_toArray, List.getElem_cons_succ, List.getElem_cons_zero]
          intro w' hSw
          (try dsimp only at hSw)
          go_simp
          with_reducible rfl
        simp only [List.getElem_toArray, List.getElem_cons_succ, List.getElem_cons_zero, Act.put, List.setIfInBounds_toArray, List.set_cons_zero, List.set_cons_succ]
        refine wpAnyH_ready (rs := [22]) (by kernel_rfl) (by simp) ?_
        refine AllReadyH.cons rfl (fun K hK => ?_) AllReadyH.nil
        simp only [List.getElem_toArray, List.getElem_cons_succ, List.getElem_cons_zero]
        go_simp
        refine hK.out _ _ (by trivial) (fun hH3 => ?_)
        clear hK K
        refine wpAnyH_done (by kernel_rfl) ?_ _
        refine last_step rfl (fun K hK => ?_)
        go_simp
        refine (unhide hK) _ _ ?_
        clear hK K
        go_wp2_with fail
        go_meet
        case rel =>
          have Z := (Box.new wy #[.int .i64 nn, .int .i64 (Code.byt t 7 : Nat), .string (t.extract 8 12), .string (t.extract 12 28), .int .i64 (ck : Nat), .int .i64 ((Code.byt t 30 : Int) - 1), .int .i64 ((Code.byt t 31 : Int) - 1), .bool false, .bool false] 30).drew
          rw [hz] at Z
          exact ⟨rfl, Z, ((unhide X0).alloc _).drew, Below.drew ((unhide B0).alloc (by omega) _)⟩
      · simp only [List.getElem_toArray, List.getElem_cons_succ, List.getElem_cons_zero]
        go_simp
        refine hK.out _ _ (by trivial) (fun hH2 => ?_)
        clear hK K
        refine wpAnyH_ready (rs := [12]) (by kernel_rfl) (by simp) ?_
        refine AllReadyH.cons rfl (fun K hK => ?_) AllReadyH.nil
        simp only [List.getElem_toArray, List.getElem_cons_succ, List.getElem_cons_zero]
        rw [if_pos (by simp [Region.wanted])]
        go_wp2_with (go_at_call 87; refine (unhide H2 _).mono ?_; rintro e w2 ⟨rfl, hw⟩; obtain rfl := hw.symm)
        refine hK.out _ _ (by trivial) (fun hH3 => ?_)
        clear hK K
        refine wpAnyH_take (i := 21) (v := ?_) rfl (by kernel_rfl) (by kernel_rfl) (by kernel_rfl) (fun _ _ _ h => h) (Or.inl ⟨by rfl, ?hy⟩) hH3 ?_
        case hy =>
          simp only [List.getElem_toArray, List.getElem_cons_succ, List.getElem_cons_zero]
          intro w' hSw
          (try dsimp only at hSw)
          go_simp
          with_reducible rfl
        simp only [List.getElem_toArray, List.getElem_cons_succ, List.getElem_cons_zero, Act.put, List.setIfInBounds_toArray, List.set_cons_zero, List.set_cons_succ]
        refine wpAnyH_done (by kernel_rfl) ?_ _
        refine last_step rfl (fun K hK => ?_)
        go_simp
        refine (unhide hK) _ _ ?_
        clear hK K
        go_wp2_with fail
        go_meet
        case rel =>
          have Z := (Box.new wy #[.int .i64 nn, .int .i64 (Code.byt t 7 : Nat), .string (t.extract 8 12), .string (t.extract 12 28), .int .i64 (ck : Nat), .int .i64 ((Code.byt t 30 : Int) - 1), .int .i64 ((Code.byt t 31 : Int) - 1), .bool false, .bool false] 30).drew
          rw [hz] at Z
          exact ⟨rfl, Z, ((unhide X0).alloc _).drew, Below.drew ((unhide B0).alloc (by omega) _)⟩
    · simp only [List.getElem_toArray, List.getElem_cons_succ, List.getElem_cons_zero]
      go_simp
      refine hK.out _ _ (by trivial) (fun hH1 => ?_)
      clear hK K
      refine wpAnyH_ready (rs := [2]) (by kernel_rfl) (by simp) ?_
      refine AllReadyH.cons rfl (fun K hK => ?_) AllReadyH.nil
      simp only [List.getElem_toArray, List.getElem_cons_succ, List.getElem_cons_zero]
      rw [if_pos (by simp [Region.wanted])]
      go_wp2_with (go_at_call 87; refine (unhide H1 _).mono ?_; rintro e w2 ⟨rfl, hw⟩; obtain rfl := hw.symm)
      refine hK.out _ _ (by trivial) (fun hH2 => ?_)
      clear hK K
      refine wpAnyH_ready (rs := [12]) (by kernel_rfl) (by simp) ?_
      refine AllReadyH.cons rfl (fun K hK => ?_) AllReadyH.nil
      simp only [List.getElem_toArray, List.getElem_cons_succ, List.getElem_cons_zero]
      rw [if_pos (by simp [Region.wanted])]
      go_wp2_with (go_at_call 87; refine (unhide H2 _).mono ?_; rintro e w2 ⟨rfl, hw⟩; obtain rfl := hw.symm)
      refine hK.out _ _ (by trivial) (fun hH3 => ?_)
      clear hK K
      refine wpAnyH_take (i := 21) (v := ?_) rfl (by kernel_rfl) (by kernel_rfl) (by kernel_rfl) (fun _ _ _ h => h) (Or.inl ⟨by rfl, ?hy⟩) hH3 ?_
      case hy =>
        simp only [List.getElem_toArray, List.getElem_cons_succ, List.getElem_cons_zero]
        intro w' hSw
        (try dsimp only at hSw)
        go_simp
        with_reducible rfl
      simp only [List.getElem_toArray, List.getElem_cons_succ, List.getElem_cons_zero, Act.put, List.setIfInBounds_toArray, List.set_cons_zero, List.set_cons_succ]
      refine wpAnyH_done (by kernel_rfl) ?_ _
      refine last_step rfl (fun K hK => ?_)
      go_simp
      refine (unhide hK) _ _ ?_
      clear hK K
      go_wp2_with fail
      go_meet
      case rel =>
        have Z := (Box.new wy #[.int .i64 nn, .int .i64 (Code.byt t 7 : Nat), .string (t.extract 8 12), .string (t.extract 12 28), .int .i64 (ck : Nat), .int .i64 ((Code.byt t 30 : Int) - 1), .int .i64 ((Code.byt t 31 : Int) - 1), .bool false, .bool false] 30).drew
        rw [hz] at Z
        exact ⟨rfl, Z, ((unhide X0).alloc _).drew, Below.drew ((unhide B0).alloc (by omega) _)⟩
  case rest =>
    obtain ⟨rfl, x1, y1, b1⟩ := hcut
    have X1 := hide x1
    have Y1 := hide y1
    have B1 := hide b1
    clear x1 y1 b1 cx fx gx hz X0 B0
    obtain ⟨cx, fx, gx⟩ := unhide X1
    clear gx
    go_upto_region 4 with fail
    have X2 := hide (((unhide X1).set 7 (.bool (((Code.byt t 32 : Nat) : Int) % 2 == 1)) (by simp)).set 8 (.bool (((Code.byt t 32 : Nat) : Int) / 2 % 2 == 1)) (by simp))
    have Y2 : Hid (Box ((wc.setCell ⟨w.heap.size + 1, 7, none⟩ (.bool (((Code.byt t 32 : Nat) : Int) % 2 == 1))).setCell ⟨w.heap.size + 1, 8, none⟩ (.bool (((Code.byt t 32 : Nat) : Int) / 2 % 2 == 1))) w.heap.size #[.int .i64 0, .int .i64 0, .string ⟨#[]⟩, .string ⟨#[]⟩, .int .i64 0, .int .i64 0, .int .i64 0, .bool false, .bool false]) := hide (Box.off (Box.off (unhide Y1) (by simp) _) (by simp) _)
    have B2 := hide (((unhide B1).setCell (p := ⟨w.heap.size + 1, 7, none⟩) (by simp) (.bool (((Code.byt t 32 : Nat) : Int) % 2 == 1))).setCell (p := ⟨w.heap.size + 1, 8, none⟩) (by simp) (.bool (((Code.byt t 32 : Nat) : Int) / 2 % 2 == 1)))
    generalize (wc.setCell ⟨w.heap.size + 1, 7, none⟩ (.bool (((Code.byt t 32 : Nat) : Int) % 2 == 1))).setCell ⟨w.heap.size + 1, 8, none⟩ (.bool (((Code.byt t 32 : Nat) : Int) / 2 % 2 == 1)) = wz at *
    rw [show ((#[.int .i64 nn, .int .i64 (Code.byt t 7 : Nat), .string (t.extract 8 12), .string (t.extract 12 28), .int .i64 (ck : Nat), .int .i64 ((Code.byt t 30 : Int) - 1), .int .i64 ((Code.byt t 31 : Int) - 1), .bool false, .bool false] : Array Value).setIfInBounds 7 (.bool (((Code.byt t 32 : Nat) : Int) % 2 == 1))).setIfInBounds 8 (.bool (((Code.byt t 32 : Nat) : Int) / 2 % 2 == 1)) = #[.int .i64 nn, .int .i64 (Code.byt t 7 : Nat), .string (t.extract 8 12), .string (t.extract 12 28), .int .i64 (ck : Nat), .int .i64 ((Code.byt t 30 : Int) - 1), .int .i64 ((Code.byt t 31 : Int) - 1), .bool (((Code.byt t 32 : Nat) : Int) % 2 == 1), .bool (((Code.byt t 32 : Nat) : Int) / 2 % 2 == 1)] by simp] at X2
    clear cx fx X1 Y1 B1 H1 H2
    generalize hp7 : (((Code.byt t 32 : Nat) : Int) % 2 == 1) = p7 at *
    generalize hp8 : (((Code.byt t 32 : Nat) : Int) / 2 % 2 == 1) = p8 at *
    have HP7 := hide hp7
    have HP8 := hide hp8
    clear hp7 hp8
    obtain ⟨cx, fx, gx⟩ := unhide X2
    clear gx
    go_wp2_with fail
    refine (unhide HL _).mono ?_
    rintro e w3 ⟨rfl, hb⟩
    have X3 := hide ((unhide X2).next hb)
    have Y3 := hide ((unhide Y2).next hb)
    have B3 := hide ((unhide B2).trans (hb.mono (unhide B2).size))
    clear hb cx fx X2 Y2 B2
    obtain ⟨cx, fx, gx⟩ := unhide X3
    clear gx
    go_upto_region 5 with fail
    go_cut [6] (fun x6 wx => x6 = .bool okc ∧ Box wx (w.heap.size + 1) #[.int .i64 nn, .int .i64 (Code.byt t 7 : Nat), .string (t.extract 8 12), .string (t.extract 12 28), .int .i64 (ck : Nat), .int .i64 ((Code.byt t 30 : Int) - 1), .int .i64 ((Code.byt t 31 : Int) - 1), .bool p7, .bool p8] ∧ Box wx w.heap.size #[.int .i64 0, .int .i64 0, .string ⟨#[]⟩, .string ⟨#[]⟩, .int .i64 0, .int .i64 0, .int .i64 0, .bool false, .bool false] ∧ Below w.heap.size w wx)
    case first =>
      cases lg with
      | false =>
        have hk : okc = false := by have := unhide HK; simpa using this.symm
        subst hk
        go_quiet (fail)
        go_wp2_with fail
        go_meet
        case rel => exact ⟨rfl, (unhide X3).drewN _, (unhide Y3).drewN _, bel_drewN (unhide B3) _⟩
      | true =>
        have HO2 := hide (unhide HO rfl)
        clear HO
        go_region_held3 (fun u => u.cell? ⟨w.heap.size + 1, 0, none⟩ = some (.int .i64 nn) ∧ u.cell? ⟨w.heap.size + 1, 1, none⟩ = some (.int .i64 (Code.byt t 7 : Nat)) ∧ u.cell? ⟨w.heap.size + 1, 2, none⟩ = some (.string (t.extract 8 12)) ∧ u.cell? ⟨w.heap.size + 1, 3, none⟩ = some (.string (t.extract 12 28)) ∧ u.cell? ⟨w.heap.size + 1, 4, none⟩ = some (.int .i64 (ck : Nat)) ∧ u.cell? ⟨w.heap.size + 1, 5, none⟩ = some (.int .i64 ((Code.byt t 30 : Int) - 1)) ∧ u.cell? ⟨w.heap.size + 1, 6, none⟩ = some (.int .i64 ((Code.byt t 31 : Int) - 1)) ∧ u.cell? ⟨w.heap.size + 1, 7, none⟩ = some (.bool p7) ∧ u.cell? ⟨w.heap.size + 1, 8, none⟩ = some (.bool p8)) (first | go_keep | (go_simp; done)) (first | (go_at_call 87; refine (unhide H3 _).mono ?_; rintro e w4 ⟨rfl, hw⟩; obtain rfl := hw.symm) | (go_at_call 56; refine (unhide HO2 _).mono ?_; rintro e w4 ⟨rfl, hb⟩; have L4 := hide (bel_undrew hb); clear hb; have X4 := hide ((unhide X3).next (unhide L4)); obtain ⟨cx4, fx4, gx4⟩ := unhide X4; clear gx4))
        all_goals
          go_wp2_with fail
          go_meet
          case rel =>
            refine ⟨congrArg Value.bool ?_, unhide X4, (unhide Y3).next (unhide L4), (unhide B3).trans ((unhide L4).mono (unhide B3).size)⟩
            rw [bytes_beq, ← unhide HK]
            rfl
    case rest =>
      obtain ⟨rfl, x1, y1, b1⟩ := hcut
      have X5 := hide x1
      have Y5 := hide y1
      have B5 := hide b1
      clear x1 y1 b1 cx fx X3 Y3 B3
      obtain ⟨cx, fx, gx⟩ := unhide X5
      obtain ⟨cy, fy, gy⟩ := unhide Y5
      clear gx gy
      have cz := (nine_boxR (unhide Y5) (.int .i64 nn) (.int .i64 (Code.byt t 7 : Nat)) (.string (t.extract 8 12)) (.string (t.extract 12 28)) (.int .i64 (ck : Nat)) (.int .i64 ((Code.byt t 30 : Int) - 1)) (.int .i64 ((Code.byt t 31 : Int) - 1)) (.bool p7) (.bool p8)).c
      go_wp2_with fail
      refine bodyPost_ret (v := .tuple #[.agg #[.int .i64 nn, .int .i64 (Code.byt t 7 : Nat), .string (t.extract 8 12), .string (t.extract 12 28), .int .i64 (ck : Nat), .int .i64 ((Code.byt t 30 : Int) - 1), .int .i64 ((Code.byt t 31 : Int) - 1), .bool p7, .bool p8], .bool okc]) (by simp [results, Tryz.results112, go_sem, cz]) rfl ⟨by rw [unhide HP7, unhide HP8], ?_⟩
      repeat (refine Below.setCell ?_ (by simp) _)
      exact unhide B5
end Go.Proofs.YtcmoffiigpchiaaGreat
