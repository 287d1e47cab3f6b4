import Derived.Test.YtbjplijhoibclaaRec2
namespace Go.Proofs.Ytbjplijhoibclaa
namespace Frame
theorem lowL_nought (k : Nat) : lowL 0 k = List.replicate k 0 := by
  induction k with
  | zero => rfl
  | succ k ih => simp [lowL, ih, List.replicate_succ']
theorem lowB_nought (k : Nat) : lowB 0 k = zeroB k := by unfold lowB zeroB; rw [lowL_nought]
theorem zeroB_add (a b : Nat) : zeroB a ++ zeroB b = zeroB (a + b) := by
  apply ByteArray.ext
  rw [ByteArray.data_append]
  simp [zeroB]
theorem lowB_c : lowB 67 1 = ⟨#[67]⟩ := rfl
theorem lowB_e : lowB 69 1 = ⟨#[69]⟩ := rfl
end Frame

theorem byt_left {a b : ByteArray} {j : Nat} (h : j < a.size) : Code.byt (a ++ b) j = Code.byt a j := by
  have h1 : j < (a ++ b).size := by rw [ByteArray.size_append]; omega
  rw [← Code.byt_eq _ _ h1, ← Code.byt_eq _ _ h]
  congr 1
  show (a ++ b).data[j]'h1 = a.data[j]'h
  simp only [ByteArray.data_append]
  exact Array.getElem_append_left h
theorem byt_right {a b : ByteArray} {j : Nat} (h : j < b.size) : Code.byt (a ++ b) (a.size + j) = Code.byt b j := by
  have h1 : a.size + j < (a ++ b).size := by rw [ByteArray.size_append]; omega
  rw [← Code.byt_eq _ _ h1, ← Code.byt_eq _ _ h]
  congr 1
  show (a ++ b).data[a.size + j]'h1 = b.data[j]'h
  simp only [ByteArray.data_append]
  rw [Array.getElem_append_right (show a.data.size ≤ a.size + j from Nat.le_add_right _ _)]
  congr 1
  exact Nat.add_sub_cancel_left _ _
theorem extract_right {a b : ByteArray} {i j : Nat} (hi : a.size ≤ i) : (a ++ b).extract i j = b.extract (i - a.size) (j - a.size) := by
  apply ByteArray.ext
  simp only [ByteArray.data_extract, ByteArray.data_append, Array.extract_append]
  rw [Array.extract_empty_of_size_le_start hi]
  simp only [Array.empty_append]
  rfl
theorem extract_whole (a : ByteArray) : a.extract 0 a.size = a := by simp

namespace RM
theorem byt_joined (l : List ByteArray) : (∀ f ∈ l, f.size = 40) → ∀ k : Nat, k < l.length → Code.byt (joined l) (40 * k) = Code.byt (l.getD k ⟨#[]⟩) 0 := by
  induction l with
  | nil => intro h k hk; simp at hk
  | cons g r ih =>
    intro h k hk
    have hg : g.size = 40 := h g (by simp)
    have hr : ∀ f ∈ r, f.size = 40 := fun f hf => h f (by simp [hf])
    show Code.byt (g ++ joined r) (40 * k) = _
    match k with
    | 0 => rw [byt_left (by omega)]; rfl
    | k + 1 =>
      have hk' : k < r.length := by simpa using hk
      rw [show 40 * (k + 1) = g.size + 40 * k by omega, byt_right (by rw [joined_size r hr]; omega), ih hr k hk']
      rfl
theorem joined_drop (l : List ByteArray) : (∀ f ∈ l, f.size = 40) → ∀ k : Nat, k ≤ l.length → (joined l).extract (40 * k) (joined l).size = joined (l.drop k) := by
  induction l with
  | nil =>
    intro h k hk
    have : k = 0 := by simpa using hk
    subst this
    rfl
  | cons g r ih =>
    intro h k hk
    have hg : g.size = 40 := h g (by simp)
    have hr : ∀ f ∈ r, f.size = 40 := fun f hf => h f (by simp [hf])
    match k with
    | 0 => exact extract_whole _
    | k + 1 =>
      have hk' : k ≤ r.length := by simpa using hk
      show (g ++ joined r).extract (40 * (k + 1)) (g ++ joined r).size = joined (r.drop k)
      rw [extract_right (by omega), ByteArray.size_append, ← ih hr k hk']
      congr 1
      · omega
      · omega

/-- Of the kept frames the first is of a state. -/
structure Inv (m : RM) : Prop where
  ok : m.Ok
  some_ : m.from_ < m.all.length
  head : nthC m.all m.from_ = true
  fit : (m.all.length : Int) - m.from_ ≤ m.room

/-- How many frames go, where there is no room. -/
def second (m : RM) : Nat := (firstC m.all (m.from_ + 1)).getD m.all.length - m.from_
theorem traceOf_size {m : RM} (hm : m.Ok) : (traceOf m).size = 40 * (m.all.length - m.from_) := by
  unfold traceOf
  rw [joined_size _ (fun f hf => hm.frames f (List.mem_of_mem_drop hf)), List.length_drop]
theorem place_trace {m : RM} (hm : m.Ok) : traceOf (place m).1 = if m.room * 40 ≤ ((traceOf m).size : Int) then (traceOf m).extract (40 * second m) (traceOf m).size else traceOf m := by
  have hs := traceOf_size hm
  have hf := hm.from1
  unfold place
  by_cases h : (m.all.length : Int) - m.from_ < m.room
  · rw [if_pos h, if_neg (by rw [hs]; omega)]
  · rw [if_neg h, if_pos (by rw [hs]; omega)]
    have hd : ∀ j, m.from_ ≤ j → j ≤ m.all.length → (traceOf m).extract (40 * (j - m.from_)) (traceOf m).size = joined (m.all.drop j) := by
      intro j h1 h2
      unfold traceOf
      rw [joined_drop _ (fun f hf => hm.frames f (List.mem_of_mem_drop hf)) _ (by rw [List.length_drop]; omega), List.drop_drop]
      congr 2
      omega
    cases hc : firstC m.all (m.from_ + 1) with
    | some j =>
      obtain ⟨h1, h2, -⟩ := firstC_some hc
      have e : second m = j - m.from_ := by simp [second, hc]
      rw [e, hd j (by omega) (by omega)]
      rfl
    | none =>
      have e : second m = m.all.length - m.from_ := by simp [second, hc]
      rw [e, hd _ hf (Nat.le_refl _)]
      rfl
theorem place_none {m : RM} (hi : Inv m) : (place m).2 = true ↔ traceOf (place m).1 = ⟨#[]⟩ := by
  have hne : ∀ q : RM, q.Ok → q.from_ < q.all.length → ¬ traceOf q = ⟨#[]⟩ := by
    intro q hq h e
    have := traceOf_size hq
    rw [e] at this
    have h0 : (⟨#[]⟩ : ByteArray).size = 0 := rfl
    omega
  have hp := place_ok hi.ok
  unfold place at hp ⊢
  split
  · simpa using hne m hi.ok hi.some_
  · rename_i hr
    rw [if_neg hr] at hp
    split
    · rename_i j hj
      rw [hj] at hp
      obtain ⟨h1, h2, -⟩ := firstC_some hj
      simpa using hne _ hp h2
    · simp [traceOf, joined]
theorem put_ok {m : RM} {f : ByteArray} (hm : m.Ok) (hf : f.size = 40) (hl : m.all.length < 4611686018427387904) (hr : (m.all.length : Int) - m.from_ < m.room) : (put m f).Ok := by
  obtain ⟨good, r0, r1, q0, q1, lg, f1, fr, l0, l1, sz, kp⟩ := hm
  refine ⟨good, r0, r1, q0, q1, lg, ?_, ?_, l0, l1, ?_, ?_⟩
  · simp [put]; omega
  · intro g hg
    simp [put] at hg
    rcases hg with hg | hg
    · exact fr g hg
    · rw [hg]; exact hf
  · simp [put]; omega
  · simp [put]; omega
theorem last_ok {m : RM} (hm : m.Ok) : ({ m with last := m.s.n } : RM).Ok := by
  obtain ⟨good, r0, r1, q0, q1, lg, f1, fr, l0, l1, sz, kp⟩ := hm
  exact ⟨good, r0, r1, q0, q1, lg, f1, fr, lg.n0, Int.le_refl _, sz, kp⟩
theorem nthC_old {all : List ByteArray} {f : ByteArray} {j : Nat} (h : j < all.length) : nthC (all ++ [f]) j = nthC all j := by
  simp [nthC, List.getD, h, List.getElem?_append_left h]
theorem nthC_new {all : List ByteArray} {f : ByteArray} : nthC (all ++ [f]) all.length = isC f := by
  simp [nthC, List.getD]
theorem isC_state (k : Nat) (s : StV) : isC (Frame.ofState k s) = true := by
  have h : ∃ r, Frame.ofState k s = ⟨#[67]⟩ ++ r := by
    unfold Frame.ofState Frame.sealed Frame.bodyC
    simp only [ByteArray.append_assoc]
    exact ⟨_, rfl⟩
  obtain ⟨r, e⟩ := h
  unfold isC
  rw [e, byt_left (by decide)]
  rfl
theorem place_from {m : RM} (hi : Inv m) : ((place m).2 = false → (place m).1.from_ < (place m).1.all.length ∧ nthC (place m).1.all (place m).1.from_ = true) ∧ ((place m).2 = true → (place m).1.from_ = (place m).1.all.length) := by
  have h1 := hi.some_
  have h2 := hi.head
  unfold place
  split
  · exact ⟨fun _ => ⟨h1, h2⟩, fun h => absurd h (by simp)⟩
  · split
    · rename_i j hj
      obtain ⟨a1, a2, a3⟩ := firstC_some hj
      exact ⟨fun _ => ⟨a2, a3⟩, fun h => absurd h (by simp)⟩
    · exact ⟨fun h => absurd h (by simp), fun _ => rfl⟩
theorem place_room' (m : RM) : (place m).1.room = m.room := by
  unfold place
  split
  · rfl
  · split <;> rfl
theorem save_inv {m : RM} (hi : Inv m) (hl : m.all.length < 4611686018427387904) : Inv (save m) := by
  have hal : (place m).1.all.length = m.all.length := by rw [place_all]
  have hs := place_s m
  have hr := place_room' m
  obtain ⟨p1, p2, p3⟩ := place_room hi.ok hi.fit
  have pf := place_from hi
  have po := place_ok hi.ok
  have e : save m = { put (place m).1 (Frame.ofState (place m).1.all.length m.s) with last := (put (place m).1 (Frame.ofState (place m).1.all.length m.s)).s.n } := by
    simp [save, put, hs]
  rw [e]
  generalize (place m).1 = q at *
  generalize (place m).2 = pn at *
  have hz : (Frame.ofState q.all.length m.s).size = 40 := Frame.ofState_size hi.ok.legal
  refine ⟨last_ok (put_ok po hz (by omega) (by omega)), ?_, ?_, ?_⟩
  · simp [put]; omega
  · show nthC (q.all ++ [_]) q.from_ = true
    cases pn with
    | false =>
      obtain ⟨b1, b2⟩ := pf.1 rfl
      rw [nthC_old b1]; exact b2
    | true => rw [pf.2 rfl, nthC_new]; exact isC_state _ _
  · simp [put]; omega
theorem save_len (m : RM) : (save m).all.length = m.all.length + 1 := by
  simp [save, place_all]
theorem note_inv {m : RM} (hi : Inv m) (c : ChV) (hl : m.all.length < 4611686018427387902) : Inv (note m c) ∧ (note m c).s = m.s ∧ (note m c).p = m.p ∧ (note m c).period = m.period ∧ (note m c).room = m.room ∧ (note m c).all.length ≤ m.all.length + 2 := by
  have hal : (place m).1.all.length = m.all.length := by rw [place_all]
  have hs := place_s m
  have hr := place_room' m
  have hpp : (place m).1.p = m.p ∧ (place m).1.period = m.period := by
    unfold place
    split
    · exact ⟨rfl, rfl⟩
    · split <;> exact ⟨rfl, rfl⟩
  obtain ⟨p1, p2, p3⟩ := place_room hi.ok hi.fit
  have pf := place_from hi
  have po := place_ok hi.ok
  have hr0 := hi.ok.room0
  unfold note
  simp only
  generalize (place m).1 = q at *
  generalize (place m).2 = pn at *
  cases pn with
  | false =>
    obtain ⟨b1, b2⟩ := pf.1 rfl
    simp only [Bool.false_eq_true, if_false]
    refine ⟨⟨put_ok po (Frame.ofChoice_size _ _ _) (by omega) (by omega), ?_, ?_, ?_⟩, hs, hpp.1, hpp.2, hr, ?_⟩
    · simp [put]; omega
    · show nthC (q.all ++ [_]) q.from_ = true
      rw [nthC_old b1]; exact b2
    · simp [put]; omega
    · simp [put]; omega
  | true =>
    have hz : (Frame.ofState q.all.length m.s).size = 40 := Frame.ofState_size hi.ok.legal
    have e1 : m.s.n = (put q (Frame.ofState q.all.length m.s)).s.n := by simp [put, hs]
    have hq := pf.2 rfl
    simp only [if_true]
    have o1 : ({ put q (Frame.ofState q.all.length m.s) with last := m.s.n } : RM).Ok := by
      have := last_ok (put_ok po hz (by omega) (by omega))
      rw [← e1] at this
      exact this
    refine ⟨⟨put_ok o1 (Frame.ofChoice_size _ _ _) (by simp [put]; omega) (by simp [put]; omega), ?_, ?_, ?_⟩, hs, hpp.1, hpp.2, hr, ?_⟩
    · simp [put]; omega
    · show nthC ((q.all ++ [_]) ++ [_]) q.from_ = true
      rw [nthC_old (by simp; omega), hq, nthC_new]; exact isC_state _ _
    · simp [put]; omega
    · simp [put]; omega
theorem went_inv {m : RM} {c : ChV} (hi : Inv m) (hc : Mach.Chosen c) (hn : m.s.n < 10000) (hl : m.all.length < 4611686018427387902) : Inv (went m c) ∧ (went m c).s = Mach.next m.p m.s c ∧ (went m c).p = m.p ∧ (went m c).period = m.period ∧ (went m c).all.length ≤ m.all.length + 2 := by
  have key : ∀ q : RM, Inv q → q.s = m.s → q.p = m.p → Inv { q with s := Mach.next m.p m.s c } := by
    intro q ⟨⟨good, r0, r1, q0, q1, lg, f1, fr, l0, l1, sz, kp⟩, h2, h3, h4⟩ e1 e2
    have hnn := Mach.next_n m.p m.s c
    rw [e2] at good
    rw [e1] at lg l1
    exact ⟨⟨by simp only; rw [e2]; exact good, r0, r1, q0, q1, Mach.next_legal good lg hc hn, f1, fr, l0, by simp only; omega, sz, kp⟩, h2, h3, h4⟩
  unfold went
  simp only
  by_cases h : counts m.p m.s c = true
  · simp only [h, if_true]
    obtain ⟨a1, a2, a3, a4, -, a5⟩ := note_inv hi c hl
    exact ⟨key _ a1 a2 a3, trivial, a3, a4, a5⟩
  · simp only [h]
    exact ⟨key m hi rfl rfl, trivial, rfl, rfl, Nat.le_add_right _ _⟩
theorem save_p (m : RM) : (save m).p = m.p ∧ (save m).period = m.period ∧ (save m).s = m.s := by
  unfold save place
  simp only
  split
  · exact ⟨rfl, rfl, rfl⟩
  · split <;> exact ⟨rfl, rfl, rfl⟩
theorem stepped_inv {m : RM} {c : ChV} (hi : Inv m) (hc : Mach.Chosen c) (hn : m.s.n < 10000) (hl : m.all.length < 4611686018427387901) : Inv (stepped m c) ∧ (stepped m c).s = Mach.next m.p m.s c ∧ (stepped m c).p = m.p ∧ (stepped m c).all.length ≤ m.all.length + 3 := by
  obtain ⟨a1, a2, a3, a4, a5⟩ := went_inv hi hc hn (by omega)
  unfold stepped
  split
  · exact ⟨save_inv a1 (by omega), by rw [(save_p _).2.2]; exact a2, by rw [(save_p _).1]; exact a3, by rw [save_len]; omega⟩
  · exact ⟨a1, a2, a3, by omega⟩
end RM

def RM.new (p : ByteArray) (room period : Int) : RM := ⟨p, room, period, Frame.begin, [Frame.ofState 0 Frame.begin], 0, 0⟩
theorem begin_legal : Mach.Legal Frame.begin := ⟨by decide, by decide, by decide, by decide, rfl, rfl, by decide, by decide, by decide, by decide, by decide, by decide⟩
theorem RM.new_ok {p : ByteArray} {room period : Int} (g : Mach.Good p) (r0 : 2 ≤ room) (r1 : room ≤ 64) (q0 : 1 ≤ period) (q1 : period ≤ 50) : (RM.new p room period).Ok :=
  ⟨g, r0, r1, q0, q1, begin_legal, Nat.zero_le _, fun f hf => by
    have : f = Frame.ofState 0 Frame.begin := by simpa [RM.new] using hf
    rw [this]; exact Frame.ofState_size begin_legal, Int.le_refl _, Int.le_refl _, by simp [RM.new], by simp [RM.new]⟩

/-- Which error New answers with. -/
def newErr (p : ByteArray) (room period : Int) : Int := if (Code.chk p).1 ≠ 0 then (Code.chk p).1 else if room < 2 ∨ 64 < room ∨ period < 1 ∨ 50 < period then 3 else 0

end Go.Proofs.Ytbjplijhoibclaa
