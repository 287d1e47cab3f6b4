import Derived.Test.YtcmoffiigpchiaaGreatMovedB
import Derived.Test.YtcmoffiigpchiaaGreatMovedD
import Derived.Test.YtcmoffiigpchiaaGreatMovedE
import Derived.Test.YtcmoffiigpchiaaGreatTurnedR
import Derived.Test.YtcmoffiigpchiaaGreatBase
namespace Go.Proofs.YtcmoffiigpchiaaGreat
open Go.RowKit

/-- The three bytes of an instruction. -/
structure IsIns (p i : ByteArray) (k : Nat) : Prop where
  size : i.size = 3
  b0 : Code.byt i 0 = Mach.op p k
  b1 : Code.byt i 1 = Code.byt p (3 * k + 1)
  b2 : Code.byt i 2 = Code.byt p (3 * k + 2)

theorem value_of (b : Nat) (h : (48 ≤ b ∧ b ≤ 57) ∨ (97 ≤ b ∧ b ≤ 118)) (c : Nat) (hc : c = 100 ∨ c = 112) (w : World) :
    Calls Tryz.prog 107 #[.int .u8 b] w fun e w' => e = .returned (.int .i64 (Mach.val c b : Nat)) ∧ w' = w := by
  have e : Mach.val c b = if 97 ≤ b then b - 87 else b - 48 := by
    unfold Mach.val
    rw [if_neg (by omega), if_neg (by omega)]
  rw [e]
  exact value_ref b (by omega) (by omega) w

theorem moved_ref (p i : ByteArray) (g : Mach.Good p) (k : Nat) (h : 3 * k < p.size) (hi : IsIns p i k) (s : StV) (c : ChV) (hs : Mach.Legal s) (hc : Mach.Chosen c) (w : World) :
    Calls Tryz.prog 76 #[s.val, .string i, c.val] w fun e w' => e = .returned (Mach.moved (Mach.op p k) (Mach.fst p k) (Mach.snd p k) s c.input).val ∧ Below w.heap.size w w' := by
  obtain ⟨hz, h0, h1, h2⟩ := hi
  have v1 := Mach.stand_val (g.second h)
  have v2 := Mach.stand_val (g.third h)
  have s1 := g.second h
  have s2 := g.third h
  have hsg := Mach.sign_cases (g.sign h)
  have f1 : Mach.fst p k = Mach.val (Code.cls2 (Mach.op p k)) (Code.byt p (3 * k + 1)) := rfl
  have f2 : Mach.snd p k = Mach.val (Code.cls3 (Mach.op p k)) (Code.byt p (3 * k + 2)) := rfl
  rw [f1, f2]
  clear f1 f2
  generalize Mach.op p k = o at *
  generalize Code.byt p (3 * k + 1) = b1 at *
  generalize Code.byt p (3 * k + 2) = b2 at *
  rcases hsg with rfl | rfl | rfl | rfl | rfl | rfl | rfl | rfl | rfl | rfl | rfl | rfl | rfl | rfl | rfl
  · obtain ⟨-, a, b⟩ := v1.1 (by decide)
    obtain ⟨t, d⟩ := v2.2.1 (by decide)
    refine (moved61 i b1 b2 s c hz h0 h1 h2 a b (by omega) _ t (value_of b2 (by omega) 100 (by omega)) hs hc w).mono ?_
    rintro e w' ⟨rfl, hb⟩
    exact ⟨ret_val rfl, hb⟩
  · obtain ⟨-, a, b⟩ := v1.1 (by decide)
    obtain ⟨-, a2, b2'⟩ := v2.1 (by decide)
    refine (moved43 i b1 b2 s c hz h0 h1 h2 a b a2 b2' hs hc w).mono ?_
    rintro e w' ⟨rfl, hb⟩
    exact ⟨ret_val rfl, hb⟩
  · obtain ⟨-, a, b⟩ := v1.1 (by decide)
    obtain ⟨-, a2, b2'⟩ := v2.1 (by decide)
    refine (moved45 i b1 b2 s c hz h0 h1 h2 a b a2 b2' hs hc w).mono ?_
    rintro e w' ⟨rfl, hb⟩
    exact ⟨ret_val rfl, hb⟩
  · obtain ⟨-, a, b⟩ := v1.1 (by decide)
    obtain ⟨t, d⟩ := v2.2.1 (by decide)
    refine (moved60 i b1 b2 s c hz h0 h1 h2 a b (by omega) _ t (value_of b2 (by omega) 100 (by omega)) hs hc w).mono ?_
    rintro e w' ⟨rfl, hb⟩
    exact ⟨ret_val rfl, hb⟩
  · obtain ⟨-, a, b⟩ := v1.1 (by decide)
    obtain ⟨t, d⟩ := v2.2.1 (by decide)
    refine (moved62 i b1 b2 s c hz h0 h1 h2 a b (by omega) _ t (value_of b2 (by omega) 100 (by omega)) hs hc w).mono ?_
    rintro e w' ⟨rfl, hb⟩
    exact ⟨ret_val rfl, hb⟩
  · obtain ⟨-, a, b⟩ := v1.1 (by decide)
    obtain ⟨-, a2, b2'⟩ := v2.1 (by decide)
    refine (moved40 i b1 b2 s c hz h0 h1 h2 a b a2 b2' hs hc w).mono ?_
    rintro e w' ⟨rfl, hb⟩
    exact ⟨ret_val rfl, hb⟩
  · obtain ⟨-, a, b⟩ := v1.1 (by decide)
    obtain ⟨-, a2, b2'⟩ := v2.1 (by decide)
    refine (moved41 i b1 b2 s c hz h0 h1 h2 a b a2 b2' hs hc w).mono ?_
    rintro e w' ⟨rfl, hb⟩
    exact ⟨ret_val rfl, hb⟩
  · obtain ⟨-, a, b⟩ := v1.1 (by decide)
    have d : b2 = 46 := of_decide_eq_true s2
    refine (moved63 i b1 b2 s c hz h0 h1 h2 a b d hs hc w).mono ?_
    rintro e w' ⟨rfl, hb⟩
    exact ⟨ret_val rfl, hb⟩
  · obtain ⟨-, a, b⟩ := v1.1 (by decide)
    have d : b2 = 46 := of_decide_eq_true s2
    refine (moved35 i b1 b2 s c hz h0 h1 h2 a b d hs hc w).mono ?_
    rintro e w' ⟨rfl, hb⟩
    exact ⟨ret_val rfl, hb⟩
  · obtain ⟨-, a, b⟩ := v1.1 (by decide)
    obtain ⟨t, d⟩ := v2.2.2 (by decide)
    exact moved_same 122 i b1 b2 s c (by omega) hz h0 h1 h2 (by omega) (by omega) hs w
  · have d1 : b1 = 46 := of_decide_eq_true s1
    obtain ⟨t, d⟩ := v2.2.2 (by decide)
    exact moved_same 106 i b1 b2 s c (by omega) hz h0 h1 h2 (by omega) (by omega) hs w
  · have d1 : b1 = 46 := of_decide_eq_true s1
    obtain ⟨t, d⟩ := v2.2.2 (by decide)
    exact moved_same 105 i b1 b2 s c (by omega) hz h0 h1 h2 (by omega) (by omega) hs w
  · have d1 : b1 = 46 := of_decide_eq_true s1
    have d : b2 = 46 := of_decide_eq_true s2
    exact moved_same 109 i b1 b2 s c (by omega) hz h0 h1 h2 (by omega) (by omega) hs w
  · have d1 : b1 = 46 := of_decide_eq_true s1
    have d : b2 = 46 := of_decide_eq_true s2
    exact moved_same 101 i b1 b2 s c (by omega) hz h0 h1 h2 (by omega) (by omega) hs w
  · have d1 : b1 = 46 := of_decide_eq_true s1
    have d : b2 = 46 := of_decide_eq_true s2
    exact moved_same 104 i b1 b2 s c (by omega) hz h0 h1 h2 (by omega) (by omega) hs w

theorem turned_all (p i : ByteArray) (g : Mach.Good p) (k : Nat) (h : 3 * k < p.size) (hi : IsIns p i k) (s : StV) (hl : Mach.Legal s) (w : World) :
    Calls Tryz.prog 77 #[s.val, .string i] w fun e w' => e = .returned (Mach.turned (Mach.op p k) (Mach.fst p k) (Mach.snd p k) s).val ∧ Below w.heap.size w w' := by
  obtain ⟨hz, h0, h1, h2⟩ := hi
  have v1 := Mach.stand_val (g.second h)
  have v2 := Mach.stand_val (g.third h)
  have hsg := Mach.sign_cases (g.sign h)
  have f1 : Mach.fst p k = Mach.val (Code.cls2 (Mach.op p k)) (Code.byt p (3 * k + 1)) := rfl
  have f2 : Mach.snd p k = Mach.val (Code.cls3 (Mach.op p k)) (Code.byt p (3 * k + 2)) := rfl
  rw [f1, f2]
  clear f1 f2
  generalize Mach.op p k = o at *
  generalize Code.byt p (3 * k + 1) = b1 at *
  generalize Code.byt p (3 * k + 2) = b2 at *
  rcases hsg with rfl | rfl | rfl | rfl | rfl | rfl | rfl | rfl | rfl | rfl | rfl | rfl | rfl | rfl | rfl
  · exact turned_same 61 i s (by omega) hz h0 w
  · exact turned_same 43 i s (by omega) hz h0 w
  · exact turned_same 45 i s (by omega) hz h0 w
  · exact turned_same 60 i s (by omega) hz h0 w
  · exact turned_same 62 i s (by omega) hz h0 w
  · exact turned_same 40 i s (by omega) hz h0 w
  · exact turned_same 41 i s (by omega) hz h0 w
  · exact turned_same 63 i s (by omega) hz h0 w
  · exact turned_same 35 i s (by omega) hz h0 w
  · obtain ⟨-, a, b⟩ := v1.1 (by decide)
    obtain ⟨t, d⟩ := v2.2.2 (by decide)
    exact turned_ref 122 i b1 b2 _ s (by omega) hz h0 h1 h2 (fun _ => ⟨a, b⟩) (fun _ => value_of b2 (by omega) 112 (by omega)) hl w
  · obtain ⟨t, d⟩ := v2.2.2 (by decide)
    exact turned_ref 106 i b1 b2 _ s (by omega) hz h0 h1 h2 (fun q => absurd q (by omega)) (fun _ => value_of b2 (by omega) 112 (by omega)) hl w
  · obtain ⟨t, d⟩ := v2.2.2 (by decide)
    exact turned_ref 105 i b1 b2 _ s (by omega) hz h0 h1 h2 (fun q => absurd q (by omega)) (fun _ => value_of b2 (by omega) 112 (by omega)) hl w
  · exact turned_ref 109 i b1 b2 0 s (by omega) hz h0 h1 h2 (fun q => absurd q (by omega)) (fun q => absurd q (by omega)) hl w
  · exact turned_ref 101 i b1 b2 0 s (by omega) hz h0 h1 h2 (fun q => absurd q (by omega)) (fun q => absurd q (by omega)) hl w
  · exact turned_ref 104 i b1 b2 0 s (by omega) hz h0 h1 h2 (fun q => absurd q (by omega)) (fun q => absurd q (by omega)) hl w
end Go.Proofs.YtcmoffiigpchiaaGreat
