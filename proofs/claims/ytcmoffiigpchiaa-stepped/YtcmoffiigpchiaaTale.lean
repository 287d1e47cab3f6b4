import Derived.Test.YtcmoffiigpchiaaHiP
namespace Go.Proofs.Ytcmoffiigpchiaa
open _root_.Go.Proofs.Ytcmoffiigpchiaa.Code (byt)

theorem ex_left {a b : ByteArray} {i j : Nat} (h : j ≤ a.size) : (a ++ b).extract i j = a.extract i j := by
  have hz : (a ++ b).size = a.size + b.size := ByteArray.size_append ..
  apply ext_byt
  · rw [size_ex _ (by omega), size_ex _ h]
  · intro k hk
    rw [size_ex _ (by omega)] at hk
    rw [byt_ex _ (by omega) (by omega), byt_ex _ h (by omega), byt_left (by omega)]
theorem ex_last {a b : ByteArray} {i j : Nat} (hi : i = a.size) (hj : j = a.size + b.size) : (a ++ b).extract i j = b := by
  rw [extract_right (by omega), show i - a.size = 0 by omega, show j - a.size = b.size by omega, extract_whole]
theorem byt_ext1 {f : ByteArray} {i : Nat} {b : ByteArray} (hi : i + 1 ≤ f.size) (h : f.extract i (i + 1) = b) : byt f i = byt b 0 := by
  rw [← h, byt_ex f hi (by omega), Nat.add_zero]

namespace Hist
theorem partsC {f a0 a1 a2 a3 a4 a5 a6 a7 a8 a9 a10 a11 : ByteArray} (h0 : a0.size = 1) (h1 : a1.size = 2) (h2 : a2.size = 4) (h3 : a3.size = 1) (h4 : a4.size = 4) (h5 : a5.size = 16) (h6 : a6.size = 2) (h7 : a7.size = 1) (h8 : a8.size = 1) (h9 : a9.size = 1) (h10 : a10.size = 3)
    (hf : f = a0 ++ a1 ++ a2 ++ a3 ++ a4 ++ a5 ++ a6 ++ a7 ++ a8 ++ a9 ++ a10 ++ a11) :
    f.extract 1 3 = a1 ∧ f.extract 3 7 = a2 ∧ f.extract 7 8 = a3 ∧ f.extract 8 12 = a4 ∧ f.extract 12 28 = a5 ∧ f.extract 28 30 = a6 ∧ f.extract 30 31 = a7 ∧ f.extract 31 32 = a8 ∧ f.extract 32 33 = a9 := by
  subst hf
  refine ⟨?_, ?_, ?_, ?_, ?_, ?_, ?_, ?_, ?_⟩ <;>
    (repeat (refine (ex_left (by simp only [ByteArray.size_append, h0, h1, h2, h3, h4, h5, h6, h7, h8, h9, h10]; omega)).trans ?_)) <;>
    exact ex_last (by simp only [ByteArray.size_append, h0, h1, h2, h3, h4, h5, h6, h7, h8]) (by simp only [ByteArray.size_append, h0, h1, h2, h3, h4, h5, h6, h7, h8, h9])
theorem partsE {f a0 a1 a2 a3 a4 a5 a6 a7 : ByteArray} (h0 : a0.size = 1) (h1 : a1.size = 2) (h2 : a2.size = 4) (h3 : a3.size = 1) (h4 : a4.size = 1) (h5 : a5.size = 1) (h6 : a6.size = 26)
    (hf : f = a0 ++ a1 ++ a2 ++ a3 ++ a4 ++ a5 ++ a6 ++ a7) :
    f.extract 1 3 = a1 ∧ f.extract 3 7 = a2 ∧ f.extract 7 8 = a3 ∧ f.extract 8 9 = a4 ∧ f.extract 9 10 = a5 := by
  subst hf
  refine ⟨?_, ?_, ?_, ?_, ?_⟩ <;>
    (repeat (refine (ex_left (by simp only [ByteArray.size_append, h0, h1, h2, h3, h4, h5, h6]; omega)).trans ?_)) <;>
    exact ex_last (by simp only [ByteArray.size_append, h0, h1, h2, h3, h4]) (by simp only [ByteArray.size_append, h0, h1, h2, h3, h4, h5])
theorem byt_low1 {v : Nat} (h : v < 256) : byt (Frame.lowB v 1) 0 = v := by
  rw [Frame.byt_lowB _ _ _ (by omega)]
  simp
  exact h
theorem flags_of (a b : Bool) : (Frame.bitN a + 2 * Frame.bitN b < 256) ∧ decide ((Frame.bitN a + 2 * Frame.bitN b) % 2 = 1) = a ∧ decide ((Frame.bitN a + 2 * Frame.bitN b) / 2 % 2 = 1) = b := by
  cases a <;> cases b <;> decide
/-- A state that was written down is read. -/
theorem read_state {k : Nat} {s : StV} (h : Mach.Legal s) : read (Frame.ofState k s) = some ⟨true, k % 65536, s.n.toNat, s, noCh⟩ := by
  have hz := Frame.ofState_size (k := k) h
  obtain ⟨q1, q2, q3, q4, q5, q6, q7, q8, q9⟩ := partsC (f := Frame.ofState k s) (a0 := ⟨#[67]⟩) (a1 := Frame.lowB (k % 65536) 2) (a2 := Frame.lowB s.n.toNat 4) (a3 := Frame.lowB s.pc.toNat 1) (a4 := s.regs) (a5 := s.cells) (a6 := Frame.lowB s.clock.toNat 2) (a7 := Frame.lowB (s.handler + 1).toNat 1) (a8 := Frame.lowB (s.back + 1).toNat 1) (a9 := Frame.lowB (Frame.bitN s.pending + 2 * Frame.bitN s.halted) 1) (a10 := Frame.zeroB 3) (a11 := Frame.lowB (Crc.sum (Frame.bodyC k s).data.toList) 4)
    rfl (Frame.lowB_size _ _) (Frame.lowB_size _ _) (Frame.lowB_size _ _) h.regs h.cells (Frame.lowB_size _ _) (Frame.lowB_size _ _) (Frame.lowB_size _ _) (Frame.lowB_size _ _) (Frame.zeroB_size _) rfl
  obtain ⟨g1, g2, g3⟩ := flags_of s.pending s.halted
  obtain ⟨a1, a2, a3, a4, a5, a6, a7, a8, a9, a10, a11, a12⟩ := h
  have e1 : numOf (Frame.ofState k s) = k % 65536 := by unfold numOf; rw [q1]; exact Frame.high_low (by omega)
  have e2 : nOf (Frame.ofState k s) = s.n.toNat := by unfold nOf; rw [q2]; exact Frame.high_low (by omega)
  have e3 : byt (Frame.ofState k s) 7 = s.pc.toNat := by rw [byt_ext1 (by omega) q3, byt_low1 (by omega)]
  have e6 : clkOf (Frame.ofState k s) = s.clock.toNat := by unfold clkOf; rw [q6]; exact Frame.high_low (by omega)
  have e7 : byt (Frame.ofState k s) 30 = (s.handler + 1).toNat := by rw [byt_ext1 (by omega) q7, byt_low1 (by omega)]
  have e8 : byt (Frame.ofState k s) 31 = (s.back + 1).toNat := by rw [byt_ext1 (by omega) q8, byt_low1 (by omega)]
  have e9 : byt (Frame.ofState k s) 32 = Frame.bitN s.pending + 2 * Frame.bitN s.halted := by rw [byt_ext1 (by omega) q9, byt_low1 g1]
  have es : stOf (Frame.ofState k s) = s := by
    unfold stOf
    rw [e2, e3, q4, q5, e6, e7, e8, e9, g2, g3]
    obtain ⟨n, pc, regs, cells, clock, handler, back, pending, halted⟩ := s
    simp only at *
    rw [show ((n.toNat : Nat) : Int) = n by omega, show ((pc.toNat : Nat) : Int) = pc by omega, show ((clock.toNat : Nat) : Int) = clock by omega, show (((handler + 1).toNat : Nat) : Int) - 1 = handler by omega, show (((back + 1).toNat : Nat) : Int) - 1 = back by omega]
  have hl : Mach.legal (stOf (Frame.ofState k s)) = true := by rw [es]; exact (Mach.legal_iff s).2 ⟨a1, a2, a3, a4, a5, a6, a7, a8, a9, a10, a11, a12⟩
  have ho : okC (Frame.ofState k s) = true := (ofState_is hz hl).1 (by
    rw [es, e1]
    unfold Frame.ofState Frame.bodyC
    rw [Nat.mod_mod])
  unfold read
  rw [if_pos ho]
  unfold enC
  rw [e1, e2, es]
/-- A choice likewise. -/
theorem read_choice {k n : Nat} {c : ChV} (hn : n < 10000) (h : Mach.Chosen c) : read (Frame.ofChoice k n c) = some ⟨false, k % 65536, n, Mach.zero, c⟩ := by
  have hz := Frame.ofChoice_size k n c
  obtain ⟨q1, q2, q3, q4, q5⟩ := partsE (f := Frame.ofChoice k n c) (a0 := ⟨#[69]⟩) (a1 := Frame.lowB (k % 65536) 2) (a2 := Frame.lowB n 4) (a3 := Frame.lowB c.input.toNat 1) (a4 := Frame.lowB c.ticks.toNat 1) (a5 := Frame.lowB (Frame.bitN c.interrupt) 1) (a6 := Frame.zeroB 26) (a7 := Frame.lowB (Crc.sum (Frame.bodyE k n c).data.toList) 4)
    rfl (Frame.lowB_size _ _) (Frame.lowB_size _ _) (Frame.lowB_size _ _) (Frame.lowB_size _ _) (Frame.lowB_size _ _) (Frame.zeroB_size _) rfl
  obtain ⟨a1, a2, a3, a4⟩ := h
  have e1 : numOf (Frame.ofChoice k n c) = k % 65536 := by unfold numOf; rw [q1]; exact Frame.high_low (by omega)
  have e2 : nOf (Frame.ofChoice k n c) = n := by unfold nOf; rw [q2]; exact Frame.high_low (by omega)
  have e3 : byt (Frame.ofChoice k n c) 7 = c.input.toNat := by rw [byt_ext1 (by omega) q3, byt_low1 (by omega)]
  have e4 : byt (Frame.ofChoice k n c) 8 = c.ticks.toNat := by rw [byt_ext1 (by omega) q4, byt_low1 (by omega)]
  have e5 : byt (Frame.ofChoice k n c) 9 = Frame.bitN c.interrupt := by rw [byt_ext1 (by omega) q5, byt_low1 (by unfold Frame.bitN; split <;> omega)]
  have es : chOf (Frame.ofChoice k n c) = c := by
    unfold chOf
    rw [e3, e4, e5]
    obtain ⟨input, ticks, interrupt⟩ := c
    simp only at *
    rw [show ((input.toNat : Nat) : Int) = input by omega, show ((ticks.toNat : Nat) : Int) = ticks by omega]
    cases interrupt <;> rfl
  have ho : okE (Frame.ofChoice k n c) = true := (ofChoice_is hz).1 ⟨by
    rw [es, e1, e2]
    unfold Frame.ofChoice Frame.bodyE
    rw [Nat.mod_mod], by rw [e2]; exact hn⟩
  have hc : okC (Frame.ofChoice k n c) = false := by
    simp only [okE, Bool.and_eq_true, decide_eq_true_eq] at ho
    simp [okC, ho.1.1.1.2]
  unfold read
  rw [if_neg (by rw [hc]; simp), if_pos ho]
  unfold enE
  rw [e1, e2, es]

/-- What the run of a text is. -/
theorem run_is {t : ByteArray} {M : List En} (hrd : ∀ i e, M[i]? = some e → read (t.extract (40 * i) (40 * i + 40)) = some e) (hf : ∀ e, M[0]? = some e → e.st = true)
    (hn : ∀ i a b, M[i]? = some a → M[i + 1]? = some b → b.k = (a.k + 1) % 65536 ∧ a.to ≤ b.n) (hl : M.length ≤ t.size / 40)
    (he : M.length = t.size / 40 ∨ read (t.extract (40 * M.length) (40 * M.length + 40)) = none) : run t = M := by
  have key : ∀ f i, i + f = t.size / 40 → i ≤ M.length → runs t f i (M.take i) = M := by
    intro f
    induction f with
    | zero =>
      intro i h1 h2
      show M.take i = M
      exact List.take_of_length_le (by omega)
    | succ f ih =>
      intro i h1 h2
      unfold runs
      rcases Nat.lt_or_ge i M.length with hi | hi
      · have hg : M[i]? = some M[i] := List.getElem?_eq_getElem hi
        rw [hrd i _ hg]
        simp only
        have hgo : goesOn (M.take i) M[i] = true := by
          unfold goesOn
          cases i with
          | zero => simp only [List.take_zero, List.getLast?_nil]; exact hf _ hg
          | succ j =>
            have hj : M[j]? = some M[j] := List.getElem?_eq_getElem (by omega)
            have hla : (M.take (j + 1)).getLast? = some M[j] := by
              rw [List.getLast?_eq_getElem?, List.length_take, show min (j + 1) M.length - 1 = j by omega, List.getElem?_take_of_lt (by omega)]
              exact hj
            obtain ⟨b1, b2⟩ := hn j _ _ hj hg
            rw [hla]
            simp only [Bool.and_eq_true, decide_eq_true_eq]
            exact ⟨b1, b2⟩
        rw [if_pos hgo, ← List.take_succ_eq_append_getElem hi]
        exact ih (i + 1) (by omega) (by omega)
      · have hiM : i = M.length := by omega
        rcases he with he | he
        · omega
        · rw [hiM, he]
          simp only
          exact List.take_of_length_le (Nat.le_refl _)
  have := key (t.size / 40) 0 (by omega) (by omega)
  unfold run
  simpa using this
theorem joined_at (l : List ByteArray) : (∀ f ∈ l, f.size = 40) → ∀ i f, l[i]? = some f → (RM.joined l).extract (40 * i) (40 * i + 40) = f := by
  induction l with
  | nil => intro _ i f h; simp at h
  | cons g r ih =>
    intro h i f hi
    have hg := h g (by simp)
    have hr : ∀ x ∈ r, x.size = 40 := fun x hx => h x (by simp [hx])
    show (g ++ RM.joined r).extract (40 * i) (40 * i + 40) = f
    cases i with
    | zero =>
      simp at hi
      subst hi
      rw [ex_left (by omega)]
      have := extract_whole g
      rw [hg] at this
      exact this
    | succ i =>
      rw [extract_right (by omega), hg, show 40 * (i + 1) - 40 = 40 * i by omega, show 40 * (i + 1) + 40 - 40 = 40 * i + 40 by omega]
      exact ih hr i f (by simpa using hi)

/-- What a text of frames tells of the states that there were. -/
structure Tale (p : ByteArray) (all : List ByteArray) (s : StV) (l : List StV) (G : List En) : Prop where
  len : G.length = all.length
  rd : ∀ (i : Nat) f e, all[i]? = some f → G[i]? = some e → read f = some e
  num : ∀ i e, G[i]? = some e → e.k = i % 65536
  run : IsRun G
  ne : G ≠ []
  zero : ∀ e, G[0]? = some e → e.n = 0
  st : ∀ e ∈ G, e.st = true → l[e.n]? = some e.s
  ch : ∀ (k : Nat) a b, l[k]? = some a → l[k + 1]? = some b → b = Mach.next p a (choiceAt G k)
  top : ∀ e ∈ G, (e.to : Int) ≤ s.n
  time : ∀ (k : Nat) a, l[k]? = some a → a.n = k
  go : ∀ (k : Nat) a, l[k]? = some a → k + 1 < l.length → a.halted = false
  last : l[s.n.toNat]? = some s
  size : (l.length : Int) = s.n + 1
  legal : Mach.Legal s
theorem choiceAt_snoc (G : List En) (e : En) (k : Int) : choiceAt (G ++ [e]) k = if e.st = false ∧ (e.n : Int) = k then e.c else choiceAt G k := by
  rw [choiceAt_append]
  rfl
theorem goesOn_tale {p : ByteArray} {all : List ByteArray} {s : StV} {l : List StV} {G : List En} (h : Tale p all s l G) (e : En) (hk : e.k = all.length % 65536) (hn : (e.n : Int) = s.n) : goesOn G e = true := by
  unfold goesOn
  cases hl : G.getLast? with
  | none => exact absurd (by simpa using hl) h.ne
  | some a =>
    have ha := h.top a (List.mem_of_getLast? hl)
    rw [List.getLast?_eq_getElem?] at hl
    have hp := List.length_pos_iff.2 h.ne
    have hka := h.num _ a hl
    have hlen := h.len
    simp only [Bool.and_eq_true, decide_eq_true_eq]
    refine ⟨?_, by omega⟩
    rw [hk, hka, ← hlen]
    omega
theorem getE_snoc {α : Type} {G : List α} {e x : α} {i : Nat} (h : (G ++ [e])[i]? = some x) : G[i]? = some x ∨ (i = G.length ∧ x = e) := by
  rcases Nat.lt_or_ge i G.length with hi | hi
  · rw [List.getElem?_append_left hi] at h; exact .inl h
  · have hlt : i < (G ++ [e]).length := by
      rcases Nat.lt_or_ge i (G ++ [e]).length with h' | h'
      · exact h'
      · rw [List.getElem?_eq_none h'] at h; cases h
    simp at hlt
    have : i = G.length := by omega
    subst this
    rw [List.getElem?_append_right (Nat.le_refl _)] at h
    simp at h
    exact .inr ⟨rfl, h.symm⟩
/-- A frame of the state. -/
def stE (k : Nat) (s : StV) : En := ⟨true, k % 65536, s.n.toNat, s, noCh⟩
def chE (k : Nat) (s : StV) (c : ChV) : En := ⟨false, k % 65536, s.n.toNat, Mach.zero, c⟩
/-- One frame more. -/
theorem Tale.more {p : ByteArray} {all : List ByteArray} {s : StV} {l : List StV} {G : List En} (h : Tale p all s l G) {f : ByteArray} {e : En} (hr : read f = some e) (hk : e.k = all.length % 65536) (hn : (e.n : Int) = s.n) (ho : e.Ok) :
    (G ++ [e]).length = (all ++ [f]).length ∧ (∀ (i : Nat) x y, (all ++ [f])[i]? = some x → (G ++ [e])[i]? = some y → read x = some y) ∧ (∀ i y, (G ++ [e])[i]? = some y → y.k = i % 65536) ∧ IsRun (G ++ [e]) ∧ G ++ [e] ≠ [] ∧ (∀ y, (G ++ [e])[0]? = some y → y.n = 0) := by
  have hlen := h.len
  refine ⟨by simp [hlen], ?_, ?_, isRun_snoc h.run ho (goesOn_tale h e hk hn), by simp, ?_⟩
  · intro i x y hx hy
    rcases getE_snoc hy with hy | ⟨hi, rfl⟩
    · have hi := (List.getElem?_eq_some_iff.1 hy).1
      rw [List.getElem?_append_left (by omega)] at hx
      exact h.rd i x y hx hy
    · rw [List.getElem?_append_right (by omega), hi, hlen] at hx
      simp at hx
      subst hx
      exact hr
  · intro i y hy
    rcases getE_snoc hy with hy | ⟨hi, rfl⟩
    · exact h.num i y hy
    · rw [hk, hi, hlen]
  · intro y hy
    rcases getE_snoc hy with hy | ⟨hi, rfl⟩
    · exact h.zero y hy
    · exact absurd (List.length_eq_zero_iff.1 hi.symm) h.ne
theorem Tale.save {p : ByteArray} {all : List ByteArray} {s : StV} {l : List StV} {G : List En} (h : Tale p all s l G) : Tale p (all ++ [Frame.ofState all.length s]) s l (G ++ [stE all.length s]) := by
  have hlg := h.legal
  have n0 := hlg.n0
  have n1 := hlg.n1
  have hsn : (((stE all.length s).n : Nat) : Int) = s.n := by show ((s.n.toNat : Nat) : Int) = s.n; omega
  have hok : (stE all.length s).Ok := ⟨Nat.mod_lt _ (by decide), by show s.n.toNat ≤ 10000; omega, fun _ => hsn.symm, fun _ => hlg, (fun h => by cases h), noCh_chosen, fun _ => rfl, (fun h => by cases h)⟩
  obtain ⟨m1, m2, m3, m4, m5, m6⟩ := h.more (f := Frame.ofState all.length s) (e := stE all.length s) (read_state hlg) rfl hsn hok
  refine ⟨m1, m2, m3, m4, m5, m6, ?_, ?_, ?_, h.time, h.go, h.last, h.size, hlg⟩
  · intro e he hs
    rcases List.mem_append.1 he with he | he
    · exact h.st e he hs
    · simp at he
      subst he
      exact h.last
  · intro k a b ha hb
    rw [choiceAt_snoc, if_neg (by simp [stE])]
    exact h.ch k a b ha hb
  · intro e he
    rcases List.mem_append.1 he with he | he
    · exact h.top e he
    · simp at he
      subst he
      have e : (stE all.length s).to = (stE all.length s).n := by unfold En.to; exact if_pos rfl
      rw [e]
      omega
/-- One state more. -/
theorem Tale.on {p : ByteArray} {all all' : List ByteArray} {s x : StV} {l : List StV} {G G' : List En} (h : Tale p all s l G)
    (m1 : G'.length = all'.length) (m2 : ∀ (i : Nat) x y, all'[i]? = some x → G'[i]? = some y → read x = some y) (m3 : ∀ i y, G'[i]? = some y → y.k = i % 65536) (m4 : IsRun G') (m5 : G' ≠ []) (m6 : ∀ y, G'[0]? = some y → y.n = 0)
    (hst : ∀ e ∈ G', e.st = true → e ∈ G) (hch : ∀ k : Int, k < s.n → choiceAt G' k = choiceAt G k) (hx : x = Mach.next p s (choiceAt G' s.n)) (htop : ∀ e ∈ G', (e.to : Int) ≤ s.n + 1) (hh : s.halted = false) (hxl : Mach.Legal x) : Tale p all' x (l ++ [x]) G' := by
  have hlg := h.legal
  have n0 := hlg.n0
  have hz := h.size
  have hxn : x.n = s.n + 1 := by rw [hx]; exact Mach.next_n _ _ _
  have hin : ∀ {k : Nat} {a : StV}, l[k]? = some a → (l ++ [x])[k]? = some a := by
    intro k a ha
    rw [List.getElem?_append_left (List.getElem?_eq_some_iff.1 ha).1]
    exact ha
  refine ⟨m1, m2, m3, m4, m5, m6, ?_, ?_, ?_, ?_, ?_, ?_, ?_, hxl⟩
  · intro e he hs
    exact hin (h.st e (hst e he hs) hs)
  · intro k a b ha hb
    rcases getE_snoc hb with hb | ⟨hi, rfl⟩
    · have hk := (List.getElem?_eq_some_iff.1 hb).1
      rw [List.getElem?_append_left (by omega)] at ha
      rw [hch k (by omega)]
      exact h.ch k a b ha hb
    · rw [List.getElem?_append_left (by omega)] at ha
      have hk : k = s.n.toNat := by omega
      have hks : (k : Int) = s.n := by omega
      rw [hk, h.last] at ha
      cases ha
      rw [hks]
      exact hx
  · intro e he
    rw [hxn]
    exact htop e he
  · intro k a ha
    rcases getE_snoc ha with ha | ⟨hi, rfl⟩
    · exact h.time k a ha
    · omega
  · intro k a ha hk
    simp at hk
    rw [List.getElem?_append_left (by omega)] at ha
    rcases Nat.lt_or_ge (k + 1) l.length with h' | h'
    · exact h.go k a ha h'
    · have hk : k = s.n.toNat := by omega
      rw [hk, h.last] at ha
      cases ha
      exact hh
  · rw [List.getElem?_append_right (by omega), show x.n.toNat - l.length = 0 by omega]
    rfl
  · simp
    omega
theorem Tale.choice {p : ByteArray} {all : List ByteArray} {s : StV} {l : List StV} {G : List En} (h : Tale p all s l G) {c : ChV} (g : Mach.Good p) (hc : Mach.Chosen c) (hh : s.halted = false) (hn : s.n < 10000) :
    Tale p (all ++ [Frame.ofChoice all.length s.n.toNat c]) (Mach.next p s c) (l ++ [Mach.next p s c]) (G ++ [chE all.length s c]) := by
  have hlg := h.legal
  have n0 := hlg.n0
  have hsn : (((chE all.length s c).n : Nat) : Int) = s.n := by show ((s.n.toNat : Nat) : Int) = s.n; omega
  have hok : (chE all.length s c).Ok := ⟨Nat.mod_lt _ (by decide), by show s.n.toNat ≤ 10000; omega, (fun h => by cases h), (fun h => by cases h), fun _ => by show s.n.toNat < 10000; omega, hc, (fun h => by cases h), fun _ => rfl⟩
  obtain ⟨m1, m2, m3, m4, m5, m6⟩ := h.more (f := Frame.ofChoice all.length s.n.toNat c) (e := chE all.length s c) (read_choice (by omega) hc) rfl hsn hok
  have hcc : ∀ k : Int, choiceAt (G ++ [chE all.length s c]) k = if s.n = k then c else choiceAt G k := by
    intro k
    rw [choiceAt_snoc]
    by_cases hk : s.n = k
    · rw [if_pos hk, if_pos ⟨rfl, by rw [hsn]; exact hk⟩]
      rfl
    · rw [if_neg hk, if_neg (fun e => hk (by rw [← hsn]; exact e.2))]
  refine h.on m1 m2 m3 m4 m5 m6 ?_ ?_ ?_ ?_ hh (Mach.next_legal g hlg hc hn)
  · intro e he hs
    rcases List.mem_append.1 he with he | he
    · exact he
    · simp at he
      subst he
      cases hs
  · intro k hk
    rw [hcc, if_neg (by omega)]
  · rw [hcc, if_pos rfl]
  · intro e he
    rcases List.mem_append.1 he with he | he
    · have := h.top e he
      omega
    · simp at he
      subst he
      unfold En.to
      rw [if_neg (by simp [chE])]
      omega
theorem moved_any {o r t : Nat} {s : StV} {i j : Int} (h : o ≠ 63) : Mach.moved o r t s i = Mach.moved o r t s j := by
  unfold Mach.moved
  simp [h]
/-- What does not count changes nothing. -/
theorem next_quiet {p : ByteArray} {s : StV} {c : ChV} (h : RM.counts p s c = false) : Mach.next p s c = Mach.next p s noCh := by
  obtain ⟨input, ticks, interrupt⟩ := c
  simp only [RM.counts, Bool.or_eq_false_iff, Bool.and_eq_false_iff, decide_eq_false_iff_not, ne_eq, Decidable.not_not] at h
  obtain ⟨⟨rfl, rfl⟩, h3⟩ := h
  have ea : Mach.arrive s ⟨input, 0, false⟩ = Mach.arrive s noCh := rfl
  have ei : Mach.exec p (Mach.arrive s noCh) input = Mach.exec p (Mach.arrive s noCh) 0 := by
    rcases h3 with h3 | h3
    · unfold RM.asks at h3
      rw [ea] at h3
      simp only [Bool.and_eq_false_iff, decide_eq_false_iff_not] at h3
      unfold Mach.exec
      rcases h3 with h3 | h3
      · rw [if_neg h3, if_neg h3]
      · unfold Mach.doIns
        rw [moved_any (j := 0) h3]
    · rw [h3]
  unfold Mach.next
  rw [ea]
  show ({ Mach.exec p (Mach.arrive s noCh) input with n := (Mach.exec p (Mach.arrive s noCh) input).n + 1 } : StV) = { Mach.exec p (Mach.arrive s noCh) 0 with n := (Mach.exec p (Mach.arrive s noCh) 0).n + 1 }
  rw [ei]
theorem Tale.quiet {p : ByteArray} {all : List ByteArray} {s : StV} {l : List StV} {G : List En} (h : Tale p all s l G) {c : ChV} (g : Mach.Good p) (hc : Mach.Chosen c) (hh : s.halted = false) (hn : s.n < 10000) (hq : RM.counts p s c = false) :
    Tale p all (Mach.next p s c) (l ++ [Mach.next p s c]) G := by
  have hno : choiceAt G s.n = noCh := choiceAt_none (fun e he hc => by
    have := h.top e he
    rw [En.to_of hc.1] at this
    omega) noCh
  refine h.on h.len h.rd h.num h.run h.ne h.zero (fun e he _ => he) (fun k _ => rfl) ?_ ?_ hh (Mach.next_legal g h.legal hc hn)
  · rw [hno]
    exact next_quiet hq
  · intro e he
    have := h.top e he
    omega
theorem tale_save {p : ByteArray} {m : RM} {l : List StV} {G : List En} (h : Tale p m.all m.s l G) : Tale p (RM.save m).all (RM.save m).s l (G ++ [stE m.all.length m.s]) := by
  have e1 : (RM.save m).all = m.all ++ [Frame.ofState m.all.length m.s] := by simp [RM.save, RM.place_all]
  rw [e1, (RM.save_p m).2.2]
  exact h.save
theorem tale_went {m : RM} {c : ChV} {l : List StV} {G : List En} (h : Tale m.p m.all m.s l G) (g : Mach.Good m.p) (hc : Mach.Chosen c) (hh : m.s.halted = false) (hn : m.s.n < 10000) :
    ∃ G', Tale m.p (RM.went m c).all (RM.went m c).s (l ++ [Mach.next m.p m.s c]) G' := by
  unfold RM.went
  simp only
  cases hq : RM.counts m.p m.s c with
  | false =>
    simp only [Bool.false_eq_true, if_false]
    exact ⟨G, h.quiet g hc hh hn hq⟩
  | true =>
    simp only [if_true]
    unfold RM.note
    simp only
    cases hp : (RM.place m).2 with
    | false =>
      simp only [Bool.false_eq_true, if_false, RM.put, RM.place_all]
      exact ⟨_, h.choice g hc hh hn⟩
    | true =>
      simp only [if_true, RM.put, RM.place_all]
      exact ⟨_, h.save.choice g hc hh hn⟩
theorem tale_stepped {m : RM} {c : ChV} {l : List StV} {G : List En} (h : Tale m.p m.all m.s l G) (g : Mach.Good m.p) (hc : Mach.Chosen c) (hh : m.s.halted = false) (hn : m.s.n < 10000) :
    ∃ G', Tale m.p (RM.stepped m c).all (RM.stepped m c).s (l ++ [Mach.next m.p m.s c]) G' := by
  obtain ⟨G', h'⟩ := tale_went h g hc hh hn
  unfold RM.stepped
  split
  · exact ⟨_, tale_save h'⟩
  · exact ⟨G', h'⟩
theorem tale_new (p : ByteArray) (room period : Int) : Tale p (RM.new p room period).all (RM.new p room period).s [Frame.begin] [stE 0 Frame.begin] := by
  have hr : read (Frame.ofState 0 Frame.begin) = some (stE 0 Frame.begin) := read_state begin_legal
  have hok : (stE 0 Frame.begin).Ok := ⟨by decide, by decide, fun _ => rfl, fun _ => begin_legal, (fun h => by cases h), noCh_chosen, fun _ => rfl, (fun h => by cases h)⟩
  refine ⟨rfl, ?_, ?_, ?_, by simp, ?_, ?_, ?_, ?_, ?_, ?_, rfl, rfl, begin_legal⟩
  · intro i f e hf he
    cases i with
    | zero =>
      cases hf
      cases he
      exact hr
    | succ i => simp at he
  · intro i e he
    cases i with
    | zero => cases he; rfl
    | succ i => simp at he
  · have := isRun_snoc isRun_nil hok rfl
    simpa using this
  · intro e he; cases he; rfl
  · intro e he _
    simp at he
    subst he
    rfl
  · intro k a b _ hb; simp at hb
  · intro e he
    simp at he
    subst he
    exact (by decide : (((stE 0 Frame.begin).to : Nat) : Int) ≤ Frame.begin.n)
  · intro k a ha
    cases k with
    | zero => cases ha; rfl
    | succ k => simp at ha
  · intro k a ha hk
    simp at hk

/-! A part of it, from a state on. -/
structure Part (G : List En) (a : Nat) (M : List En) : Prop where
  is : M = (G.drop a).take M.length
  ne : M ≠ []
  first : ∀ e, M[0]? = some e → e.st = true
theorem Part.at_ {G M : List En} {a : Nat} (h : Part G a M) {i : Nat} {e : En} (he : M[i]? = some e) : G[a + i]? = some e := by
  have hi := (List.getElem?_eq_some_iff.1 he).1
  rw [h.is, List.getElem?_take_of_lt hi, List.getElem?_drop] at he
  exact he
theorem Part.run {G M : List En} {a : Nat} (h : Part G a M) (hG : IsRun G) : IsRun M := by
  refine ⟨fun e he => ?_, fun e he => ?_, fun i x y hx hy => ?_⟩
  · obtain ⟨i, hi⟩ := List.getElem?_of_mem he
    exact hG.ok e (List.mem_of_getElem? (h.at_ hi))
  · rw [List.head?_eq_getElem?] at he
    exact h.first e he
  · exact hG.up (a + i) x y (h.at_ hx) (by have := h.at_ hy; rwa [← Nat.add_assoc] at this)
theorem Part.two {G M : List En} {a : Nat} (h : Part G a M) : ∃ x y, M[0]? = some x ∧ M[M.length - 1]? = some y ∧ firstN M = x.n ∧ lastTo M = y.to := by
  have hp := List.length_pos_iff.2 h.ne
  refine ⟨M[0], M[M.length - 1], List.getElem?_eq_getElem hp, List.getElem?_eq_getElem (by omega), ?_, ?_⟩
  · unfold firstN
    rw [List.head?_eq_getElem?, List.getElem?_eq_getElem hp]
  · unfold lastTo
    rw [List.getLast?_eq_getElem?, List.getElem?_eq_getElem (by omega)]
theorem Part.le {G M : List En} {a : Nat} (h : Part G a M) (hG : IsRun G) : firstN M ≤ lastTo M := by
  obtain ⟨x, y, hx, hy, h1, h2⟩ := h.two
  rw [h1, h2]
  have q := x.n_le_to
  have q2 := y.n_le_to
  rcases Nat.lt_or_ge 0 (M.length - 1) with h' | h'
  · have := (h.run hG).mono' h' hx hy
    omega
  · rw [show M.length - 1 = 0 by omega, hx] at hy
    cases hy
    omega
theorem Part.choice {G M : List En} {a : Nat} (h : Part G a M) (hG : IsRun G) {t : Int} (h1 : firstN M ≤ t) (h2 : t < lastTo M) : choiceAt M t = choiceAt G t := by
  obtain ⟨x, y, hx, hy, e1, e2⟩ := h.two
  rw [e1] at h1
  rw [e2] at h2
  have hp := List.length_pos_iff.2 h.ne
  have hsp : G = G.take a ++ (M ++ G.drop (a + M.length)) := by
    conv => lhs; rw [← List.take_append_drop a G]
    congr 1
    conv => lhs; rw [← List.take_append_drop M.length (G.drop a)]
    rw [← h.is, List.drop_drop]
  have hA : ∀ e ∈ G.take a, ¬ (e.st = false ∧ (e.n : Int) = t) := by
    intro e he hc
    obtain ⟨i, hi⟩ := List.getElem?_of_mem he
    have hil := (List.getElem?_eq_some_iff.1 hi).1
    rw [List.length_take] at hil
    rw [List.getElem?_take_of_lt (by omega)] at hi
    have := hG.mono' (show i < a + 0 by omega) hi (h.at_ hx)
    rw [En.to_of hc.1] at this
    omega
  have hB : ∀ e ∈ G.drop (a + M.length), ¬ (e.st = false ∧ (e.n : Int) = t) := by
    intro e he hc
    obtain ⟨i, hi⟩ := List.getElem?_of_mem he
    rw [List.getElem?_drop] at hi
    have := hG.mono' (show a + (M.length - 1) < a + M.length + i by omega) (h.at_ hy) hi
    omega
  conv => rhs; rw [hsp]
  rw [choiceAt_append, List.foldl_append]
  have z : choiceAt (G.take a) t = noCh := choiceAt_none hA noCh
  rw [z]
  have z2 := choiceAt_none hB (choiceAt M t)
  exact z2.symm
/-- What it tells of a time. -/
theorem stood_of {p : ByteArray} {all : List ByteArray} {s : StV} {l : List StV} {G M : List En} {a : Nat} (h : Tale p all s l G) (hM : Part G a M) {n : Int} (h1 : firstN M ≤ n) (h2 : n ≤ lastTo M) :
    ∃ x, l[n.toNat]? = some x ∧ stood p M n = some x := by
  have hR := hM.run h.run
  have hT : Tells M n := ⟨hR, hM.ne, h1⟩
  obtain ⟨⟨e, he, hs, hn⟩, hl⟩ := hT.from
  have hmem := List.mem_of_getElem? (hM.at_ he)
  have hsn := (h.run.ok e hmem).sN hs
  have hst := h.st e hmem hs
  have hlt : lastTo M ≤ s.n := by
    obtain ⟨x, y, hx, hy, e1, e2⟩ := hM.two
    rw [e2]
    exact h.top y (List.mem_of_getElem? (hM.at_ hy))
  have hf1 : firstN M ≤ e.n := by
    obtain ⟨x, y, hx, hy, e1, e2⟩ := hM.two
    rw [e1]
    have q := x.n_le_to
    rcases Nat.eq_zero_or_pos (fromOf M n) with h' | h'
    · rw [h', hx] at he; cases he; omega
    · have := hR.mono' h' hx he
      omega
  have hz := h.size
  have hn1 := h.legal.n1
  have key : ∀ k : Nat, ((e.n + k : Nat) : Int) ≤ n → ∃ x, l[e.n + k]? = some x ∧ up p (M.drop (fromOf M n + 1)) e.s k = some x := by
    intro k
    induction k with
    | zero => intro _; exact ⟨e.s, hst, rfl⟩
    | succ k ih =>
      intro hk
      obtain ⟨x, hx, hu⟩ := ih (by omega)
      obtain ⟨y, hy⟩ : ∃ y, l[e.n + k + 1]? = some y := ⟨_, List.getElem?_eq_getElem (by omega)⟩
      have hxn := h.time _ x hx
      have hxh := h.go _ x hx (by omega)
      refine ⟨y, hy, ?_⟩
      unfold up
      rw [hu]
      simp only [Option.bind_some]
      rw [hxn, choiceAt_drop hR he hs (by omega), hM.choice h.run (by omega) (by omega)]
      unfold nextO
      have hno : ¬ (x.halted = true ∨ 10000 ≤ x.n) := by
        rw [hxh, hxn]
        intro q
        rcases q with q | q
        · cases q
        · omega
      rw [if_neg hno, h.ch _ x y hx hy]
  obtain ⟨x, hx, hu⟩ := key (n - e.n).toNat (by omega)
  refine ⟨x, by rw [show n.toNat = e.n + (n - e.n).toNat by omega]; exact hx, ?_⟩
  unfold stood
  rw [he]
  simp only
  rw [hsn]
  exact hu
/-- The run of a text whose frames are those of a part. -/
theorem text_of {p : ByteArray} {all : List ByteArray} {s : StV} {l : List StV} {G M : List En} {a : Nat} (h : Tale p all s l G) (hM : Part G a M) {t : ByteArray} (hf : ∀ (i : Nat) f, i < M.length → all[a + i]? = some f → t.extract (40 * i) (40 * i + 40) = f)
    (hl : M.length ≤ t.size / 40) (he : M.length = t.size / 40 ∨ read (t.extract (40 * M.length) (40 * M.length + 40)) = none) : run t = M := by
  refine run_is ?_ hM.first ?_ hl he
  · intro i e hi
    have hil := (List.getElem?_eq_some_iff.1 hi).1
    have hg := hM.at_ hi
    have hgl := (List.getElem?_eq_some_iff.1 hg).1
    have hlen := h.len
    obtain ⟨f, hff⟩ : ∃ f, all[a + i]? = some f := ⟨_, List.getElem?_eq_getElem (by omega)⟩
    rw [hf i f hil hff]
    exact h.rd _ f e hff hg
  · intro i x y hx hy
    have gx := hM.at_ hx
    have gy := hM.at_ hy
    refine ⟨?_, h.run.up (a + i) x y gx (by rwa [← Nat.add_assoc] at gy)⟩
    rw [h.num _ x gx, h.num _ y gy]
    omega

/-! What a machine keeps. -/
theorem st_of_isC {f : ByteArray} {e : En} (h : read f = some e) (hc : RM.isC f = true) : e.st = true := by
  have hb := of_decide_eq_true hc
  unfold read at h
  split at h
  · cases h; rfl
  · split at h
    · rename_i ho
      simp only [okE, Bool.and_eq_true, decide_eq_true_eq] at ho
      omega
    · cases h
theorem kept_part {m : RM} {l : List StV} {G : List En} {p : ByteArray} (hi : m.Inv) (h : Tale p m.all m.s l G) (j : Nat) (hj : 1 ≤ j) (hjl : j ≤ m.all.length - m.from_) : Part G m.from_ ((G.drop m.from_).take j) ∧ ((G.drop m.from_).take j).length = j := by
  have hlen := h.len
  have hs := hi.some_
  have hl : ((G.drop m.from_).take j).length = j := by
    rw [List.length_take, List.length_drop]
    omega
  refine ⟨⟨by rw [hl], ?_, ?_⟩, hl⟩
  · intro e
    rw [e] at hl
    simp at hl
    omega
  · intro e he
    rw [List.getElem?_take_of_lt (by omega), List.getElem?_drop, Nat.add_zero] at he
    obtain ⟨f, hf⟩ : ∃ f, m.all[m.from_]? = some f := ⟨_, List.getElem?_eq_getElem hs⟩
    refine st_of_isC (h.rd _ f e hf he) ?_
    have := hi.head
    unfold RM.nthC at this
    rw [List.getD_eq_getElem?_getD, hf] at this
    exact this
theorem trace_at {m : RM} (hi : m.Inv) {i : Nat} {f : ByteArray} (hf : m.all[m.from_ + i]? = some f) : (RM.traceOf m).extract (40 * i) (40 * i + 40) = f := by
  refine joined_at _ (fun x hx => hi.ok.frames x (List.mem_of_mem_drop hx)) i f ?_
  rw [List.getElem?_drop]
  exact hf
/-- A text tells just what there was. -/
structure Shows (p t : ByteArray) (l : List StV) (M : List En) : Prop where
  run : run t = M
  ne : M ≠ []
  lo : 0 ≤ firstN M
  le : firstN M ≤ lastTo M
  hi : lastTo M < l.length
  at_ : ∀ n : Int, firstN M ≤ n → n ≤ lastTo M → ∃ x, l[n.toNat]? = some x ∧ atOf p M n = (x, 0)
  early : ∀ n : Int, n < firstN M → atOf p M n = (Mach.zero, 7)
  late : ∀ n : Int, lastTo M < n → atOf p M n = (Mach.zero, 8)
theorem shows_of {p t : ByteArray} {all : List ByteArray} {s : StV} {l : List StV} {G M : List En} {a : Nat} (hg : (Code.chk p).1 = 0) (h : Tale p all s l G) (hM : Part G a M) (hr : Hist.run t = M) : Shows p t l M := by
  have hle := hM.le h.run
  have hne := hM.ne
  obtain ⟨x, y, hx, hy, e1, e2⟩ := hM.two
  have hlt := h.top y (List.mem_of_getElem? (hM.at_ hy))
  have hz := h.size
  refine ⟨hr, hne, by omega, hle, by omega, fun n h1 h2 => ?_, fun n h1 => ?_, fun n h1 => ?_⟩
  · obtain ⟨x, hx, hs⟩ := stood_of h hM h1 h2
    refine ⟨x, hx, ?_⟩
    have he : atErr p M n = 0 := by
      unfold atErr
      rw [if_neg (by simp [hg]), if_neg hne, if_neg (by omega), if_neg (by omega)]
    unfold atOf
    rw [if_neg (by simp [he]), hs]
  · unfold atOf atErr
    simp [hg, hne, h1]
  · unfold atOf atErr
    have : ¬ n < firstN M := by omega
    simp [hg, hne, h1, this]
/-- The first frames of a trace, with what can't be read behind them. -/
theorem trace_run {m : RM} {l : List StV} {G : List En} {p t : ByteArray} (hi : m.Inv) (h : Tale p m.all m.s l G) {j : Nat} (hj : 1 ≤ j) (hjl : j ≤ m.all.length - m.from_) (hz : j ≤ t.size / 40)
    (hs : ∀ i, i < j → t.extract (40 * i) (40 * i + 40) = (RM.traceOf m).extract (40 * i) (40 * i + 40)) (he : j = t.size / 40 ∨ read (t.extract (40 * j) (40 * j + 40)) = none) : Hist.run t = (G.drop m.from_).take j := by
  obtain ⟨hP, hl⟩ := kept_part hi h j hj hjl
  refine text_of h hP ?_ (by omega) (by rw [hl]; exact he)
  intro i f hil hf
  rw [hl] at hil
  rw [hs i hil]
  exact trace_at hi hf
theorem run_none {t : ByteArray} (h : t.size / 40 = 0 ∨ read (t.extract 0 40) = none) : Hist.run t = [] := by
  refine run_is (by simp) (by simp) (by simp) (by simp) ?_
  rcases h with h | h
  · left; rw [h]; rfl
  · right; exact h
theorem trace_size {m : RM} (hi : m.Inv) : (RM.traceOf m).size = 40 * (m.all.length - m.from_) ∧ 1 ≤ m.all.length - m.from_ ∧ ((m.all.length - m.from_ : Nat) : Int) ≤ m.room := by
  have h1 := hi.some_
  have h2 := hi.fit
  exact ⟨RM.traceOf_size hi.ok, by omega, by omega⟩
/-- The whole trace. -/
theorem trace_whole {m : RM} {l : List StV} {G : List En} {p : ByteArray} (hg : (Code.chk p).1 = 0) (hi : m.Inv) (h : Tale p m.all m.s l G) : Shows p (RM.traceOf m) l (G.drop m.from_) := by
  obtain ⟨z1, z2, z3⟩ := trace_size hi
  have hlen := h.len
  have ht : (G.drop m.from_).take (m.all.length - m.from_) = G.drop m.from_ := List.take_of_length_le (by rw [List.length_drop]; omega)
  obtain ⟨hP, hl⟩ := kept_part hi h (m.all.length - m.from_) z2 (Nat.le_refl _)
  have hr := trace_run hi h z2 (Nat.le_refl _) (t := RM.traceOf m) (by omega) (fun _ _ => rfl) (.inl (by omega))
  rw [ht] at hP hr
  exact shows_of hg h hP hr
/-- Cut off anywhere behind its first frame. -/
theorem trace_cut {m : RM} {l : List StV} {G : List En} {p : ByteArray} (hg : (Code.chk p).1 = 0) (hi : m.Inv) (h : Tale p m.all m.s l G) {n : Nat} (h1 : 40 ≤ n) (h2 : n ≤ (RM.traceOf m).size) : Shows p ((RM.traceOf m).extract 0 n) l ((G.drop m.from_).take (n / 40)) := by
  obtain ⟨z1, z2, z3⟩ := trace_size hi
  obtain ⟨hP, hl⟩ := kept_part hi h (n / 40) (by omega) (by omega)
  have hsz : ((RM.traceOf m).extract 0 n).size = n := by rw [size_ex _ h2]; omega
  refine shows_of hg h hP (trace_run hi h (by omega) (by omega) (by omega) ?_ (.inl (by omega)))
  intro i hil
  rw [ex_ex _ h2 (by omega)]
  congr 1 <;> omega
theorem firstN_take (M : List En) {j : Nat} (hj : 1 ≤ j) : firstN (M.take j) = firstN M := by
  unfold firstN
  rw [List.head?_eq_getElem?, List.head?_eq_getElem?, List.getElem?_take_of_lt (by omega)]
theorem lastTo_take {M : List En} (hM : IsRun M) {j : Nat} (hj : 1 ≤ j) : lastTo (M.take j) ≤ lastTo M := by
  rcases Nat.lt_or_ge j M.length with h | h
  · have hp : 0 < M.length := by omega
    have e1 : lastTo (M.take j) = (M[j - 1]'(by omega)).to := by
      unfold lastTo
      rw [List.getLast?_eq_getElem?, List.length_take, show min j M.length - 1 = j - 1 by omega, List.getElem?_take_of_lt (by omega), List.getElem?_eq_getElem (show j - 1 < M.length by omega)]
    have e2 : lastTo M = (M[M.length - 1]'(by omega)).to := by
      unfold lastTo
      rw [List.getLast?_eq_getElem?, List.getElem?_eq_getElem (show M.length - 1 < M.length by omega)]
    have h1 := hM.mono' (show j - 1 < M.length - 1 by omega) (List.getElem?_eq_getElem (show j - 1 < M.length by omega)) (List.getElem?_eq_getElem (show M.length - 1 < M.length by omega))
    have h2 := (M[M.length - 1]'(by omega)).n_le_to
    rw [e1, e2]
    omega
  · rw [List.take_of_length_le h]
    exact Int.le_refl _
/-- Behind a Save a trace reaches to the last step. -/
theorem saved_last {m : RM} {l : List StV} {G : List En} {p : ByteArray} (hi : m.Inv) (h : Tale p m.all m.s l G) : lastTo ((G ++ [stE m.all.length m.s]).drop (RM.save m).from_) = m.s.n := by
  have hf : (RM.save m).from_ ≤ m.all.length := by
    obtain ⟨p1, p2, p3⟩ := RM.place_room hi.ok hi.fit
    have : (RM.save m).from_ = (RM.place m).1.from_ := rfl
    rw [RM.place_all] at p2
    omega
  have hlen := h.len
  have n0 := h.legal.n0
  rw [List.drop_append_of_le_length (by omega)]
  unfold lastTo
  rw [List.getLast?_append]
  simp only [List.getLast?_singleton, Option.some_or]
  have e : (stE m.all.length m.s).to = m.s.n.toNat := by unfold En.to; exact if_pos rfl
  rw [e]
  omega

/-! Whether there was room for all. -/
def Fit (m : RM) (sv : Int) : Prop := (m.from_ = 0 ∧ ∃ q : Int, 0 ≤ q ∧ q * m.period ≤ m.last ∧ (m.all.length : Int) ≤ 1 + sv + m.s.n + q) ∨ m.room < 2 + sv + m.s.n + m.s.n / m.period
theorem le_div {q b n : Int} (hb : 1 ≤ b) (h : q * b ≤ n) : q ≤ n / b := (Int.le_ediv_iff_mul_le (by omega)).2 h
theorem div_up {a b c : Int} (hb : 1 ≤ b) (h : a ≤ c) : a / b ≤ c / b := Int.ediv_le_ediv (by omega) h
theorem place_fit {m : RM} (h : m.from_ = 0) : (RM.place m).1.from_ = 0 ∧ (RM.place m).2 = false ∨ m.room ≤ m.all.length := by
  unfold RM.place
  split
  · exact .inl ⟨h, rfl⟩
  · right; omega
theorem place_last (m : RM) : (RM.place m).1.last = m.last ∧ (RM.place m).1.period = m.period ∧ (RM.place m).1.p = m.p := by
  unfold RM.place
  split
  · exact ⟨rfl, rfl, rfl⟩
  · split <;> exact ⟨rfl, rfl, rfl⟩
/-- With one save more; or one that the period asked for. -/
theorem fit_save {m : RM} {sv d : Int} (hi : m.Inv) (h : Fit m sv) (hd : d = 1 ∨ (d = 0 ∧ m.period ≤ m.s.n - m.last)) : Fit (RM.save m) (sv + d) := by
  have hp := hi.ok.period0
  have hl := hi.ok.last1
  have e1 : (RM.save m).all.length = m.all.length + 1 := RM.save_len m
  have e2 : (RM.save m).s = m.s := (RM.save_p m).2.2
  have e3 : (RM.save m).period = m.period := (RM.save_p m).2.1
  have e4 : (RM.save m).room = m.room := RM.place_room' m
  have e5 : (RM.save m).last = m.s.n := rfl
  have e6 : (RM.save m).from_ = (RM.place m).1.from_ := rfl
  unfold Fit
  rw [e1, e2, e3, e4, e5, e6]
  rcases h with ⟨h0, q, hq0, hq, ha⟩ | h
  · rcases place_fit h0 with ⟨g1, g2⟩ | g
    · left
      refine ⟨g1, ?_⟩
      rcases hd with rfl | ⟨rfl, hd⟩
      · exact ⟨q, hq0, by omega, by omega⟩
      · exact ⟨q + 1, by omega, by rw [Int.add_mul, Int.one_mul]; omega, by omega⟩
    · right
      have := le_div (q := q) (n := m.s.n) hp (by omega)
      rcases hd with rfl | ⟨rfl, hd⟩ <;> omega
  · right
    rcases hd with rfl | ⟨rfl, hd⟩ <;> omega
theorem fit_went {m : RM} {sv : Int} {c : ChV} (hi : m.Inv) (h : Fit m sv) : Fit (RM.went m c) sv := by
  have hp := hi.ok.period0
  have hl := hi.ok.last1
  have hnn := Mach.next_n m.p m.s c
  have hdu := div_up (a := m.s.n) (c := m.s.n + 1) hp (by omega)
  obtain ⟨q1, q2, q3⟩ := place_last m
  have qr := RM.place_room' m
  unfold RM.went
  simp only
  cases hq : RM.counts m.p m.s c with
  | false =>
    simp only [Bool.false_eq_true, if_false]
    unfold Fit
    simp only
    rw [hnn]
    rcases h with ⟨h0, q, hq0, hq, ha⟩ | h
    · left; exact ⟨h0, q, hq0, hq, by omega⟩
    · right; omega
  | true =>
    simp only [if_true]
    unfold RM.note
    simp only
    cases hpl : (RM.place m).2 with
    | false =>
      simp only [Bool.false_eq_true, if_false, RM.put]
      unfold Fit
      simp only
      rw [hnn, RM.place_all, q1, q2, qr]
      rcases h with ⟨h0, q, hq0, hq, ha⟩ | h
      · rcases place_fit h0 with ⟨g1, g2⟩ | g
        · left; exact ⟨g1, q, hq0, hq, by simp; omega⟩
        · right
          have := le_div (q := q) (n := m.s.n) hp (by omega)
          omega
      · right; omega
    | true =>
      simp only [if_true, RM.put]
      unfold Fit
      simp only
      rw [hnn, q2, qr]
      right
      rcases h with ⟨h0, q, hq0, hq, ha⟩ | h
      · rcases place_fit h0 with ⟨g1, g2⟩ | g
        · rw [hpl] at g2; cases g2
        · have := le_div (q := q) (n := m.s.n) hp (by omega)
          omega
      · omega
theorem fit_stepped {m : RM} {sv : Int} {c : ChV} (hi : m.Inv) (h : Fit m sv) (hw : (RM.went m c).Inv) : Fit (RM.stepped m c) sv := by
  have hf := fit_went (c := c) hi h
  unfold RM.stepped
  split
  · rename_i hc
    have hper : (RM.went m c).period = m.period := by
      unfold RM.went
      simp only
      split
      · unfold RM.note
        simp only [RM.put]
        split
        · exact (place_last m).2.1
        · exact (place_last m).2.1
      · rfl
    have := fit_save (d := 0) hw hf (.inr ⟨rfl, by rw [hper]; exact hc⟩)
    rw [Int.add_zero] at this
    exact this
  · exact hf
theorem went_rp (m : RM) (c : ChV) : (RM.went m c).room = m.room ∧ (RM.went m c).period = m.period := by
  unfold RM.went
  simp only
  split
  · unfold RM.note
    simp only [RM.put]
    split <;> exact ⟨RM.place_room' m, (place_last m).2.1⟩
  · exact ⟨rfl, rfl⟩
theorem stepped_rp (m : RM) (c : ChV) : (RM.stepped m c).room = m.room ∧ (RM.stepped m c).period = m.period := by
  obtain ⟨h1, h2⟩ := went_rp m c
  unfold RM.stepped
  split
  · exact ⟨(RM.place_room' _).trans h1, (RM.save_p _).2.1.trans h2⟩
  · exact ⟨h1, h2⟩
theorem fit_new (p : ByteArray) (room period : Int) : Fit (RM.new p room period) 0 := by
  left
  refine ⟨rfl, 0, by omega, ?_, ?_⟩
  · rw [Int.zero_mul]
    exact Int.le_refl 0
  · exact (by decide : (([Frame.ofState 0 Frame.begin] : List ByteArray).length : Int) ≤ 1 + 0 + Frame.begin.n + 0)
/-- Then the span begins at the beginning. -/
theorem fit_first {m : RM} {l : List StV} {G : List En} {p : ByteArray} {sv : Int} (hi : m.Inv) (h : Tale p m.all m.s l G) (hf : Fit m sv) (hr : 2 + sv + m.s.n + m.s.n / m.period ≤ m.room) : firstN ((G ++ [stE m.all.length m.s]).drop (RM.save m).from_) = 0 := by
  have hp := hi.ok.period0
  have hl := hi.ok.last1
  rcases hf with ⟨h0, q, hq0, hq, ha⟩ | hf
  · have := le_div (q := q) (n := m.s.n) hp (by omega)
    have e : (RM.save m).from_ = 0 := by
      show (RM.place m).1.from_ = 0
      unfold RM.place
      rw [if_pos (by omega)]
      exact h0
    rw [e, List.drop_zero]
    unfold firstN
    rw [List.head?_eq_getElem?]
    obtain ⟨x, hx⟩ : ∃ x, (G ++ [stE m.all.length m.s])[0]? = some x := ⟨_, List.getElem?_eq_getElem (by simp)⟩
    rw [hx]
    have hz := h.save.zero x hx
    simp only
    omega
  · omega
end Hist
end Go.Proofs.Ytcmoffiigpchiaa
