import Derived.Test.YtcmoffiigpchiaaRdP
namespace Go.Proofs.Ytcmoffiigpchiaa
open _root_.Go.Proofs.Ytcmoffiigpchiaa.Code (byt)
namespace Hist

/-- The time to which an entry reaches. -/
def En.to (e : En) : Nat := if e.st = true then e.n else e.n + 1
structure En.Ok (e : En) : Prop where
  k : e.k < 65536
  n : e.n ≤ 10000
  sN : e.st = true → e.s.n = e.n
  sL : e.st = true → Mach.Legal e.s
  cN : e.st = false → e.n < 10000
  cL : Mach.Chosen e.c
  cZ : e.st = true → e.c = noCh
  sZ : e.st = false → e.s = Mach.zero
theorem noCh_chosen : Mach.Chosen noCh := ⟨by decide, by decide, by decide, by decide⟩
theorem read_ok {f : ByteArray} (h : f.size = 40) {e : En} (he : read f = some e) : e.Ok := by
  unfold read at he
  split at he
  · rename_i hc
    cases he
    have hl : Mach.legal (stOf f) = true := by simp only [okC, Bool.and_eq_true] at hc; exact hc.2
    have hn := (legal_lt hl).2.2.2
    exact ⟨numOf_lt h, hn, fun _ => rfl, fun _ => (Mach.legal_iff _).1 hl, (fun h => by cases h), noCh_chosen, fun _ => rfl, (fun h => by cases h)⟩
  · split at he
    · rename_i hc
      cases he
      have hn : nOf f < 10000 := by simp only [okE, Bool.and_eq_true, decide_eq_true_eq] at hc; exact hc.2
      have q1 := Code.byt_lt f 7
      have q2 := Code.byt_lt f 8
      exact ⟨numOf_lt h, Nat.le_of_lt hn, (fun h => by cases h), (fun h => by cases h), fun _ => hn, ⟨by simp [enE, chOf], by simp only [enE, chOf]; omega, by simp [enE, chOf], by simp only [enE, chOf]; omega⟩, (fun h => by cases h), fun _ => rfl⟩
    · cases he

/-- Whether an entry can come behind those of a run. -/
def goesOn (l : List En) (e : En) : Bool := match l.getLast? with
  | none => e.st
  | some a => decide (e.k = (a.k + 1) % 65536) && decide (a.to ≤ e.n)
def runs (t : ByteArray) : Nat → Nat → List En → List En
  | 0, _, l => l
  | f + 1, i, l => match read (t.extract (40 * i) (40 * i + 40)) with
    | none => l
    | some e => if goesOn l e = true then runs t f (i + 1) (l ++ [e]) else l
/-- The run of a trace. -/
def run (t : ByteArray) : List En := runs t (t.size / 40) 0 []

/-- What a run is. -/
structure IsRun (l : List En) : Prop where
  ok : ∀ e ∈ l, e.Ok
  first : ∀ e, l.head? = some e → e.st = true
  up : ∀ i a b, l[i]? = some a → l[i + 1]? = some b → a.to ≤ b.n
theorem isRun_nil : IsRun [] := ⟨by simp, by simp, by simp⟩
theorem isRun_snoc {l : List En} {e : En} (h : IsRun l) (he : e.Ok) (hg : goesOn l e = true) : IsRun (l ++ [e]) := by
  refine ⟨?_, ?_, ?_⟩
  · intro x hx
    rcases List.mem_append.1 hx with hx | hx
    · exact h.ok x hx
    · simp at hx; subst hx; exact he
  · intro x hx
    cases l with
    | nil => simp at hx; subst hx; simpa [goesOn] using hg
    | cons a r => simp at hx; subst hx; exact h.first a rfl
  · intro i a b ha hb
    by_cases hi : i + 1 < l.length
    · rw [List.getElem?_append_left (by omega)] at ha
      rw [List.getElem?_append_left hi] at hb
      exact h.up i a b ha hb
    · have hlt : i + 1 < (l ++ [e]).length := by
        rcases Nat.lt_or_ge (i + 1) (l ++ [e]).length with h' | h'
        · exact h'
        · rw [List.getElem?_eq_none h'] at hb; cases hb
      simp at hlt
      have hil : i + 1 = l.length := by omega
      rw [List.getElem?_append_left (by omega)] at ha
      rw [hil, List.getElem?_append_right (Nat.le_refl _)] at hb
      simp at hb
      subst hb
      have hla : l.getLast? = some a := by
        rw [List.getLast?_eq_getElem?, show l.length - 1 = i by omega, ha]
      simp only [goesOn, hla, Bool.and_eq_true, decide_eq_true_eq] at hg
      exact hg.2
theorem runs_isRun (t : ByteArray) : ∀ f i l, 40 * (i + f) ≤ t.size → IsRun l → IsRun (runs t f i l) := by
  intro f
  induction f with
  | zero => intro i l _ h; exact h
  | succ f ih =>
    intro i l hs h
    unfold runs
    split
    · exact h
    · rename_i e he
      split
      · rename_i hg
        exact ih (i + 1) _ (by omega) (isRun_snoc h (read_ok (by rw [size_ex t (by omega)]; omega) he) hg)
      · exact h
theorem run_isRun (t : ByteArray) : IsRun (run t) := runs_isRun t _ 0 [] (by omega) isRun_nil
theorem runs_length (t : ByteArray) : ∀ f i l, (runs t f i l).length ≤ l.length + f := by
  intro f
  induction f with
  | zero => intro i l; exact Nat.le_refl _
  | succ f ih =>
    intro i l
    unfold runs
    split
    · omega
    · split
      · have := ih (i + 1) (l ++ [‹En›])
        simp at this
        omega
      · omega
theorem run_length (t : ByteArray) : (run t).length ≤ t.size / 40 := by
  have := runs_length t (t.size / 40) 0 []
  unfold run
  simpa using this

/-- The last entry; the time to which a run reaches. -/
def firstN (l : List En) : Int := match l.head? with | some e => e.n | none => 0
def lastTo (l : List En) : Int := match l.getLast? with | some e => e.to | none => 0
def spanErr (l : List En) : Int := if l = [] then 6 else 0

/-- Between two entries of a run. -/
theorem IsRun.mono {l : List En} (h : IsRun l) : ∀ d i a b, l[i]? = some a → l[i + 1 + d]? = some b → a.to ≤ b.n := by
  intro d
  induction d with
  | zero => intro i a b ha hb; exact h.up i a b ha hb
  | succ d ih =>
    intro i a b ha hb
    have hlt : i + 1 + d < l.length := by
      rcases Nat.lt_or_ge (i + 1 + (d + 1)) l.length with h' | h'
      · omega
      · rw [List.getElem?_eq_none h'] at hb; cases hb
    obtain ⟨c, hc⟩ : ∃ c, l[i + 1 + d]? = some c := ⟨_, List.getElem?_eq_getElem hlt⟩
    have h1 := ih i a c ha hc
    have h2 := h.up (i + 1 + d) c b hc hb
    have h3 : c.n ≤ c.to := by unfold En.to; split <;> omega
    omega
theorem IsRun.mono' {l : List En} (h : IsRun l) {i j : Nat} {a b : En} (hij : i < j) (ha : l[i]? = some a) (hb : l[j]? = some b) : a.to ≤ b.n :=
  h.mono (j - (i + 1)) i a b ha (by rw [show i + 1 + (j - (i + 1)) = j by omega]; exact hb)
theorem En.n_le_to (e : En) : e.n ≤ e.to := by unfold En.to; split <;> omega
theorem En.to_of {e : En} (h : e.st = false) : e.to = e.n + 1 := by unfold En.to; simp [h]

/-- The last of the first i entries that is a state up to n; 0, if there is none. -/
def fromUp (l : List En) (n : Int) : Nat → Nat
  | 0 => 0
  | i + 1 => match l[i]? with
    | some e => if e.st = true ∧ (e.n : Int) ≤ n then i else fromUp l n i
    | none => fromUp l n i
def fromOf (l : List En) (n : Int) : Nat := fromUp l n l.length
/-- The choice of a time. -/
def choiceAt (l : List En) (m : Int) : ChV := l.foldl (fun c e => if e.st = false ∧ (e.n : Int) = m then e.c else c) noCh
/-- One step; none, if it cannot be done. -/
def nextO (p : ByteArray) (s : StV) (c : ChV) : Option StV := if s.halted = true ∨ 10000 ≤ s.n then none else some (Mach.next p s c)
/-- So many steps on, with the choices that stand in a list. -/
def up (p : ByteArray) (l : List En) (s : StV) : Nat → Option StV
  | 0 => some s
  | k + 1 => (up p l s k).bind fun t => nextO p t (choiceAt l t.n)
/-- The document's answer. -/
def stood (p : ByteArray) (l : List En) (n : Int) : Option StV := match l[fromOf l n]? with
  | some e => up p (l.drop (fromOf l n + 1)) e.s (n - e.s.n).toNat
  | none => none

theorem fromUp_le (l : List En) (n : Int) : ∀ i, fromUp l n i ≤ i - 1 := by
  intro i
  induction i with
  | zero => simp [fromUp]
  | succ i ih =>
    unfold fromUp
    split
    · split <;> omega
    · omega
theorem fromUp_spec (l : List En) (n : Int) (h0 : ∀ e, l[0]? = some e → e.st = true ∧ (e.n : Int) ≤ n) : ∀ i, 0 < i → i ≤ l.length →
    (∃ e, l[fromUp l n i]? = some e ∧ e.st = true ∧ (e.n : Int) ≤ n) ∧ ∀ j, fromUp l n i < j → j < i → ∀ e, l[j]? = some e → ¬ (e.st = true ∧ (e.n : Int) ≤ n) := by
  intro i
  induction i with
  | zero => intro h; omega
  | succ i ih =>
    intro _ hi
    obtain ⟨e, he⟩ : ∃ e, l[i]? = some e := ⟨_, List.getElem?_eq_getElem (by omega)⟩
    unfold fromUp
    rw [he]
    simp only
    by_cases hc : e.st = true ∧ (e.n : Int) ≤ n
    · rw [if_pos hc]
      exact ⟨⟨e, he, hc⟩, fun j h1 h2 => by omega⟩
    · rw [if_neg hc]
      rcases Nat.eq_zero_or_pos i with h | h
      · subst h; exact absurd (h0 e he) hc
      · obtain ⟨h1, h2⟩ := ih h (by omega)
        refine ⟨h1, fun j hj1 hj2 e' he' => ?_⟩
        rcases Nat.lt_or_ge j i with h' | h'
        · exact h2 j hj1 h' e' he'
        · have : j = i := by omega
          subst this
          rw [he] at he'
          cases he'
          exact hc
/-- A run that tells of time n. -/
structure Tells (l : List En) (n : Int) : Prop where
  run : IsRun l
  ne : l ≠ []
  lo : firstN l ≤ n
theorem Tells.zero {l : List En} {n : Int} (h : Tells l n) : ∀ e, l[0]? = some e → e.st = true ∧ (e.n : Int) ≤ n := by
  intro e he
  have hh : l.head? = some e := by rw [List.head?_eq_getElem?]; exact he
  refine ⟨h.run.first e hh, ?_⟩
  have := h.lo
  unfold firstN at this
  rw [hh] at this
  exact this
theorem Tells.len {l : List En} {n : Int} (h : Tells l n) : 0 < l.length := by
  have := h.ne
  cases l with
  | nil => exact absurd rfl this
  | cons a r => simp
theorem Tells.from {l : List En} {n : Int} (h : Tells l n) :
    (∃ e, l[fromOf l n]? = some e ∧ e.st = true ∧ (e.n : Int) ≤ n) ∧ ∀ j, fromOf l n < j → ∀ e, l[j]? = some e → ¬ (e.st = true ∧ (e.n : Int) ≤ n) := by
  obtain ⟨h1, h2⟩ := fromUp_spec l n h.zero l.length h.len (Nat.le_refl _)
  refine ⟨h1, fun j hj e he => ?_⟩
  have hlt : j < l.length := by
    rcases Nat.lt_or_ge j l.length with h' | h'
    · exact h'
    · rw [List.getElem?_eq_none h'] at he; cases he
  exact h2 j hj hlt e he
/-- Which one it is. -/
theorem Tells.from_is {l : List En} {n : Int} (h : Tells l n) {f : Nat} {e : En} (he : l[f]? = some e) (hs : e.st = true) (hn : (e.n : Int) ≤ n)
    (hb : ∀ j, f < j → ∀ e, l[j]? = some e → ¬ (e.st = true ∧ (e.n : Int) ≤ n)) : fromOf l n = f := by
  obtain ⟨⟨e1, h1, h2, h3⟩, h4⟩ := h.from
  rcases Nat.lt_trichotomy (fromOf l n) f with hlt | heq | hgt
  · exact absurd ⟨hs, hn⟩ (h4 f hlt e he)
  · exact heq
  · exact absurd ⟨h2, h3⟩ (hb _ hgt e1 h1)

theorem choiceAt_none {l : List En} {m : Int} (h : ∀ e ∈ l, ¬ (e.st = false ∧ (e.n : Int) = m)) (c : ChV) : l.foldl (fun c e => if e.st = false ∧ (e.n : Int) = m then e.c else c) c = c := by
  induction l generalizing c with
  | nil => rfl
  | cons a r ih =>
    rw [List.foldl_cons, if_neg (h a (by simp))]
    exact ih (fun e he => h e (by simp [he])) c
theorem choiceAt_append (a b : List En) (m : Int) : choiceAt (a ++ b) m = b.foldl (fun c e => if e.st = false ∧ (e.n : Int) = m then e.c else c) (choiceAt a m) := by
  unfold choiceAt
  rw [List.foldl_append]
/-- Choices ahead of a state are of earlier times. -/
theorem choiceAt_drop {l : List En} (h : IsRun l) {f : Nat} {e : En} (he : l[f]? = some e) (hs : e.st = true) {m : Int} (hm : (e.n : Int) ≤ m) : choiceAt (l.drop (f + 1)) m = choiceAt l m := by
  have hp : ∀ x ∈ l.take (f + 1), ¬ (x.st = false ∧ (x.n : Int) = m) := by
    intro x hx hc
    obtain ⟨i, hi⟩ := List.getElem?_of_mem hx
    have hil : i < f + 1 := by
      rcases Nat.lt_or_ge i (l.take (f + 1)).length with h' | h'
      · simp at h'; omega
      · rw [List.getElem?_eq_none h'] at hi; cases hi
    rw [List.getElem?_take_of_lt hil] at hi
    rcases Nat.lt_or_ge i f with h' | h'
    · have := h.mono' h' hi he
      rw [En.to_of hc.1] at this
      omega
    · have : i = f := by omega
      subst this
      rw [he] at hi
      cases hi
      rw [hs] at hc
      exact absurd hc.1 (by simp)
  conv => rhs; rw [← List.take_append_drop (f + 1) l]
  rw [choiceAt_append]
  have : choiceAt (l.take (f + 1)) m = noCh := choiceAt_none hp noCh
  rw [this]
  rfl
theorem up_n {p : ByteArray} {l : List En} {s : StV} : ∀ k t, up p l s k = some t → t.n = s.n + k := by
  intro k
  induction k with
  | zero => intro t h; simp [up] at h; subst h; simp
  | succ k ih =>
    intro t h
    unfold up at h
    obtain ⟨u, hu, ht⟩ := Option.bind_eq_some_iff.1 h
    unfold nextO at ht
    split at ht
    · cases ht
    · cases ht
      rw [Mach.next_n, ih u hu]
      omega
/-- A state's frame at n tells of n. -/
theorem stood_state {p : ByteArray} {l : List En} {n : Int} (h : Tells l n) {f : Nat} {e : En} (he : l[f]? = some e) (hs : e.st = true) (hn : (e.n : Int) = n)
    (hb : ∀ j, f < j → ∀ e, l[j]? = some e → ¬ (e.st = true ∧ (e.n : Int) = n)) : stood p l n = some e.s := by
  have hf : fromOf l n = f := h.from_is he hs (by omega) (fun j hj x hx hc => by
    have h1 := h.run.mono' hj he hx
    have h2 := e.n_le_to
    exact hb j hj x hx ⟨hc.1, by omega⟩)
  unfold stood
  rw [hf, he]
  simp only
  rw [(h.run.ok e (List.mem_of_getElem? he)).sN hs, show ((n - (e.n : Int)).toNat) = 0 by omega]
  rfl
/-- Where there is none: one step more. -/
theorem stood_step {p : ByteArray} {l : List En} {n : Int} (h : Tells l n) (hb : ∀ e ∈ l, ¬ (e.st = true ∧ (e.n : Int) = n + 1)) :
    stood p l (n + 1) = (stood p l n).bind fun s => nextO p s (choiceAt l n) := by
  obtain ⟨⟨e, he, hs, hn⟩, hl⟩ := h.from
  have h1 : Tells l (n + 1) := ⟨h.run, h.ne, by have := h.lo; omega⟩
  have hf : fromOf l (n + 1) = fromOf l n := h1.from_is he hs (by omega) (fun j hj x hx hc => by
    have e1 := hl j hj x hx
    have e2 := hb x (List.mem_of_getElem? hx)
    rcases Int.lt_or_le n x.n with h' | h'
    · exact e2 ⟨hc.1, by omega⟩
    · exact e1 ⟨hc.1, h'⟩)
  have hN := (h.run.ok e (List.mem_of_getElem? he)).sN hs
  unfold stood
  rw [hf, he]
  simp only
  rw [show (n + 1 - e.s.n).toNat = (n - e.s.n).toNat + 1 by omega]
  conv => lhs; unfold up
  cases hu : up p (l.drop (fromOf l n + 1)) e.s (n - e.s.n).toNat with
  | none => rfl
  | some t =>
    have ht := up_n _ t hu
    simp only [Option.bind_some]
    rw [show t.n = n by omega, choiceAt_drop h.run he hs hn]

/-! The program's own way: upwards, a frame after the other. -/
structure Pt where
  n : Int
  s : StV
  known : Bool
  later : List En
def told (n : Int) (s : StV) (k : Bool) : List En → Pt
  | [] => ⟨n, s, k, []⟩
  | e :: r => if e.st = true ∧ (e.n : Int) = n then told n e.s true r else ⟨n, s, k, e :: r⟩
def taken (n : Int) : List En → ChV × List En
  | [] => (noCh, [])
  | e :: r => if e.st = false ∧ (e.n : Int) = n then (e.c, r) else (noCh, e :: r)
def nextP (p : ByteArray) (x : Pt) : Pt :=
  let y := if x.known = true then Mach.step p x.s (taken x.n x.later).1 else (x.s, 1)
  told (x.n + 1) y.1 (decide (y.2 = 0)) (taken x.n x.later).2
def beginP (l : List En) : Pt := told (firstN l) Mach.zero false l
def walk (p : ByteArray) (l : List En) : Nat → Pt
  | 0 => beginP l
  | k + 1 => nextP p (walk p l k)
def Pt.opt (x : Pt) : Option StV := if x.known = true then some x.s else none

/-- What is left of a run at a time. -/
structure Left (l : List En) (n : Int) (r : List En) (j : Nat) : Prop where
  is : r = l.drop j
  le : j ≤ l.length
  gone : ∀ i e, i < j → l[i]? = some e → (e.n : Int) < n ∨ (e.st = true ∧ (e.n : Int) = n)
  come : ∀ i e, j ≤ i → l[i]? = some e → n < e.n ∨ (e.st = false ∧ (e.n : Int) = n)
theorem drop_at {l r : List En} {j : Nat} {e : En} (h : e :: r = l.drop j) : l[j]? = some e ∧ r = l.drop (j + 1) := by
  have h0 : (l.drop j)[0]? = some e := by rw [← h]; rfl
  rw [List.getElem?_drop, Nat.add_zero] at h0
  refine ⟨h0, ?_⟩
  have : (l.drop j).drop 1 = l.drop (j + 1) := by rw [List.drop_drop]
  rw [← h] at this
  exact this
theorem told_is {l : List En} (h : IsRun l) (n : Int) : ∀ (r : List En) (j : Nat) (s : StV) (k : Bool), r = l.drop j → j ≤ l.length →
    (∀ i e, i < j → l[i]? = some e → (e.n : Int) < n ∨ (e.st = true ∧ (e.n : Int) = n)) → (∀ i e, j ≤ i → l[i]? = some e → n ≤ e.n) →
    (told n s k r).n = n ∧ ∃ j', j ≤ j' ∧ Left l n (told n s k r).later j' ∧
      (j' = j ∧ (told n s k r).s = s ∧ (told n s k r).known = k ∨ j < j' ∧ ∃ e, l[j' - 1]? = some e ∧ e.st = true ∧ (e.n : Int) = n ∧ (told n s k r).s = e.s ∧ (told n s k r).known = true) := by
  intro r
  induction r with
  | nil =>
    intro j s k hr hj hg hc
    refine ⟨rfl, j, Nat.le_refl _, ⟨hr, hj, hg, fun i e hi he => ?_⟩, .inl ⟨rfl, rfl, rfl⟩⟩
    have hl : l.length ≤ j := by
      have := congrArg List.length hr
      simp at this
      omega
    rw [List.getElem?_eq_none (by omega)] at he
    cases he
  | cons e r ih =>
    intro j s k hr hj hg hc
    obtain ⟨h0, h1⟩ := drop_at hr
    have hlt : j < l.length := by
      rcases Nat.lt_or_ge j l.length with h' | h'
      · exact h'
      · rw [List.getElem?_eq_none h'] at h0; cases h0
    unfold told
    by_cases hx : e.st = true ∧ (e.n : Int) = n
    · rw [if_pos hx]
      obtain ⟨a1, j', a2, a3, a4⟩ := ih (j + 1) e.s true h1 (by omega) (fun i x hi hx' => by
        rcases Nat.lt_or_ge i j with h' | h'
        · exact hg i x h' hx'
        · have : i = j := by omega
          subst this
          rw [h0] at hx'
          cases hx'
          exact .inr hx) (fun i x hi hx' => hc i x (by omega) hx')
      refine ⟨a1, j', by omega, a3, .inr ⟨by omega, ?_⟩⟩
      rcases a4 with ⟨b1, b2, b3⟩ | ⟨b1, x, b2, b3, b4, b5, b6⟩
      · subst b1
        exact ⟨e, by simpa using h0, hx.1, hx.2, b2, b3⟩
      · exact ⟨x, b2, b3, b4, b5, b6⟩
    · rw [if_neg hx]
      refine ⟨rfl, j, Nat.le_refl _, ⟨hr, hj, hg, fun i x hi hx' => ?_⟩, .inl ⟨rfl, rfl, rfl⟩⟩
      have hn := hc i x hi hx'
      have hne := hc j e (Nat.le_refl _) h0
      rcases Nat.lt_or_ge j i with h' | h'
      · have hm := h.mono' h' h0 hx'
        have ht := e.n_le_to
        rcases Int.lt_or_le n x.n with h2 | h2
        · exact .inl h2
        · have he : (e.n : Int) = n := by omega
          have hst : e.st = false := by
            cases hs : e.st with
            | false => rfl
            | true => exact absurd ⟨hs, he⟩ hx
          rw [En.to_of hst] at hm
          omega
      · have : i = j := by omega
        subst this
        rw [h0] at hx'
        cases hx'
        rcases Int.lt_or_le n e.n with h2 | h2
        · exact .inl h2
        · right
          refine ⟨?_, by omega⟩
          cases hs : e.st with
          | false => rfl
          | true => exact absurd ⟨hs, by omega⟩ hx
theorem taken_is {l : List En} (h : IsRun l) {n : Int} {r : List En} {j : Nat} (hL : Left l n r j) :
    (taken n r).1 = choiceAt l n ∧ ∃ j', (taken n r).2 = l.drop j' ∧ j' ≤ l.length ∧ (∀ i e, i < j' → l[i]? = some e → (e.n : Int) < n + 1) ∧ (∀ i e, j' ≤ i → l[i]? = some e → n + 1 ≤ e.n) := by
  have hgone : ∀ x ∈ l.take j, ¬ (x.st = false ∧ (x.n : Int) = n) := by
    intro x hx hc
    obtain ⟨i, hi⟩ := List.getElem?_of_mem hx
    have hil : i < j := by
      rcases Nat.lt_or_ge i (l.take j).length with h' | h'
      · simp at h'; omega
      · rw [List.getElem?_eq_none h'] at hi; cases hi
    rw [List.getElem?_take_of_lt hil] at hi
    rcases hL.gone i x hil hi with h1 | h1
    · omega
    · rw [hc.1] at h1; exact absurd h1.1 (by simp)
  have hch : choiceAt l n = (l.drop j).foldl (fun c e => if e.st = false ∧ (e.n : Int) = n then e.c else c) noCh := by
    conv => lhs; rw [← List.take_append_drop j l]
    rw [choiceAt_append]
    have : choiceAt (l.take j) n = noCh := choiceAt_none hgone noCh
    rw [this]
  have hle := hL.le
  cases r with
  | nil =>
    refine ⟨?_, j, by rw [← hL.is]; rfl, hle, fun i e hi he => ?_, fun i e hi he => ?_⟩
    · rw [hch, ← hL.is]; rfl
    · rcases hL.gone i e hi he with h1 | h1 <;> omega
    · have hl : l.length ≤ j := by
        have := congrArg List.length hL.is
        simp at this
        omega
      rw [List.getElem?_eq_none (by omega)] at he
      cases he
  | cons e r =>
    obtain ⟨h0, h1⟩ := drop_at hL.is
    have hlt : j < l.length := by
      rcases Nat.lt_or_ge j l.length with h' | h'
      · exact h'
      · rw [List.getElem?_eq_none h'] at h0; cases h0
    simp only [taken]
    by_cases hx : e.st = false ∧ (e.n : Int) = n
    · rw [if_pos hx]
      have hafter : ∀ i x, j < i → l[i]? = some x → n + 1 ≤ x.n := fun i x hi hxx => by
        have hm := h.mono' hi h0 hxx
        rw [En.to_of hx.1] at hm
        omega
      refine ⟨?_, j + 1, h1, by omega, fun i x hi hxx => ?_, fun i x hi hxx => hafter i x (by omega) hxx⟩
      · rw [hch, ← hL.is, List.foldl_cons, if_pos hx]
        refine (choiceAt_none (fun x hxm hc => ?_) _).symm
        rw [h1] at hxm
        obtain ⟨i, hi⟩ := List.getElem?_of_mem hxm
        rw [List.getElem?_drop] at hi
        have := hafter _ x (by omega) hi
        omega
      · rcases Nat.lt_or_ge i j with h' | h'
        · rcases hL.gone i x h' hxx with h2 | h2 <;> omega
        · have : i = j := by omega
          subst this
          rw [h0] at hxx
          cases hxx
          omega
    · rw [if_neg hx]
      have hafter : ∀ i x, j ≤ i → l[i]? = some x → n + 1 ≤ x.n := fun i x hi hxx => by
        have he : n < e.n := by
          rcases hL.come j e (Nat.le_refl _) h0 with h2 | h2
          · exact h2
          · exact absurd h2 hx
        rcases Nat.lt_or_ge j i with h' | h'
        · have hm := h.mono' h' h0 hxx
          have ht := e.n_le_to
          omega
        · have : i = j := by omega
          subst this
          rw [h0] at hxx
          cases hxx
          omega
      refine ⟨?_, j, hL.is, hle, fun i x hi hxx => ?_, hafter⟩
      · rw [hch, ← hL.is]
        symm
        refine choiceAt_none (fun x hxm hc => ?_) noCh
        rw [hL.is] at hxm
        obtain ⟨i, hi⟩ := List.getElem?_of_mem hxm
        rw [List.getElem?_drop] at hi
        have := hafter _ x (by omega) hi
        omega
      · rcases hL.gone i x hi hxx with h2 | h2 <;> omega

theorem step_some {p : ByteArray} {s : StV} {c : ChV} (g : (Code.chk p).1 = 0) (hs : Mach.Legal s) (hc : Mach.Chosen c) :
    (Mach.step p s c).1 = (nextO p s c).getD Mach.zero ∧ ((Mach.step p s c).2 = 0 ↔ (nextO p s c).isSome = true) := by
  unfold Mach.step Mach.refusal nextO
  have h1 := (Mach.legal_iff s).2 hs
  have h2 := (Mach.chosen_iff c).2 hc
  simp only [g, ne_eq, not_true, if_false, h1, h2, Bool.true_eq_false]
  by_cases h : s.halted = true ∨ 10000 ≤ s.n
  · simp [h]
  · simp [h]
theorem choiceAt_chosen {l : List En} (h : ∀ e ∈ l, e.Ok) (m : Int) : Mach.Chosen (choiceAt l m) := by
  unfold choiceAt
  have : ∀ (l : List En), (∀ e ∈ l, e.Ok) → ∀ c, Mach.Chosen c → Mach.Chosen (l.foldl (fun c e => if e.st = false ∧ (e.n : Int) = m then e.c else c) c) := by
    intro l
    induction l with
    | nil => intro _ c hc; exact hc
    | cons a r ih =>
      intro h c hc
      rw [List.foldl_cons]
      refine ih (fun e he => h e (by simp [he])) _ ?_
      split
      · exact (h a (by simp)).cL
      · exact hc
  exact this l h noCh noCh_chosen
theorem nextO_legal {p : ByteArray} {s t : StV} {c : ChV} (g : (Code.chk p).1 = 0) (hs : Mach.Legal s) (hc : Mach.Chosen c) (h : nextO p s c = some t) : Mach.Legal t := by
  unfold nextO at h
  split at h
  · cases h
  · rename_i hh
    cases h
    exact Mach.next_legal (Mach.good_of g) hs hc (by
      rcases Int.lt_or_le s.n 10000 with h' | h'
      · exact h'
      · exact absurd (.inr h') hh)

/-- The two ways meet. -/
structure Meets (p : ByteArray) (l : List En) (n : Int) (x : Pt) : Prop where
  time : x.n = n
  left : ∃ j, Left l n x.later j
  opt : x.opt = stood p l n
  legal : x.known = true → Mach.Legal x.s
theorem begin_meets {p : ByteArray} {l : List En} (h : IsRun l) (hne : l ≠ []) : Meets p l (firstN l) (beginP l) := by
  have hT : Tells l (firstN l) := ⟨h, hne, Int.le_refl _⟩
  have hlen := hT.len
  obtain ⟨e0, he0⟩ : ∃ e, l[0]? = some e := ⟨_, List.getElem?_eq_getElem hlen⟩
  have hst := (hT.zero e0 he0).1
  have hn0 : firstN l = e0.n := by
    unfold firstN
    rw [List.head?_eq_getElem?, he0]
  have hall : ∀ i x, 0 ≤ i → l[i]? = some x → firstN l ≤ x.n := fun i x _ hx => by
    rw [hn0]
    rcases Nat.eq_zero_or_pos i with h' | h'
    · subst h'; rw [he0] at hx; cases hx; exact Int.le_refl _
    · have := h.mono' h' he0 hx
      have := e0.n_le_to
      omega
  obtain ⟨a1, j', a2, a3, a4⟩ := told_is h (firstN l) l 0 Mach.zero false (by simp) (by omega) (fun i e hi => by omega) hall
  have hj : 0 < j' := by
    rcases Nat.eq_zero_or_pos j' with h' | h'
    · subst h'
      rcases a3.come 0 e0 (Nat.le_refl _) he0 with h2 | h2
      · omega
      · rw [hst] at h2; exact absurd h2.1 (by simp)
    · exact h'
  rcases a4 with ⟨b1, _⟩ | ⟨_, e, b2, b3, b4, b5, b6⟩
  · omega
  · refine ⟨a1, ⟨j', a3⟩, ?_, fun _ => ?_⟩
    · unfold Pt.opt beginP
      rw [b6, b5]
      simp only [if_true]
      refine (stood_state hT b2 b3 b4 (fun j hj2 x hx hc => ?_)).symm
      rcases a3.come j x (by omega) hx with h2 | h2
      · omega
      · rw [hc.1] at h2; exact absurd h2.1 (by simp)
    · show Mach.Legal (told _ _ _ _).s
      rw [b5]
      exact (h.ok e (List.mem_of_getElem? b2)).sL b3
theorem next_meets {p : ByteArray} {l : List En} {n : Int} {x : Pt} (g : (Code.chk p).1 = 0) (hT : Tells l n) (h : Meets p l n x) : Meets p l (n + 1) (nextP p x) := by
  obtain ⟨hn, ⟨j, hL⟩, ho, hl⟩ := h
  have hT1 : Tells l (n + 1) := ⟨hT.run, hT.ne, by have := hT.lo; omega⟩
  obtain ⟨c1, j1, c2, c3, c4, c5⟩ := taken_is hT.run hL
  have hcc := choiceAt_chosen hT.run.ok n
  -- what the step leaves
  obtain ⟨y, hy⟩ : ∃ y : StV × Int, y = if x.known = true then Mach.step p x.s (taken x.n x.later).1 else (x.s, 1) := ⟨_, rfl⟩
  have hyo : (if decide (y.2 = 0) = true then some y.1 else none) = (stood p l n).bind fun s => nextO p s (choiceAt l n) := by
    rw [← ho, hy, hn, c1]
    unfold Pt.opt
    cases hk : x.known with
    | false => simp
    | true =>
      obtain ⟨s1, s2⟩ := step_some g (hl hk) hcc
      simp only [if_true, Option.bind_some]
      cases hx : nextO p x.s (choiceAt l n) with
      | none =>
        rw [hx] at s2
        simp at s2
        simp [s2]
      | some t =>
        rw [hx] at s1 s2
        simp at s1 s2
        simp [s1, s2]
  have hyl : decide (y.2 = 0) = true → Mach.Legal y.1 := fun hd => by
    rw [if_pos hd] at hyo
    obtain ⟨s, e1, e2⟩ := Option.bind_eq_some_iff.1 hyo.symm
    rw [← ho] at e1
    unfold Pt.opt at e1
    split at e1
    · rename_i hk
      cases e1
      exact nextO_legal g (hl hk) hcc e2
    · cases e1
  obtain ⟨a1, j', a2, a3, a4⟩ := told_is hT.run (n + 1) (taken n x.later).2 j1 y.1 (decide (y.2 = 0)) c2 c3 (fun i e hi he => .inl (c4 i e hi he)) c5
  have hnx : nextP p x = told (n + 1) y.1 (decide (y.2 = 0)) (taken n x.later).2 := by
    unfold nextP
    rw [← hy, hn]
  rw [hnx]
  rcases a4 with ⟨b1, b2, b3⟩ | ⟨b1, e, b2, b3, b4, b5, b6⟩
  · refine ⟨a1, ⟨j', a3⟩, ?_, ?_⟩
    · unfold Pt.opt
      rw [b2, b3, hyo]
      refine (stood_step hT (fun e he hc => ?_)).symm
      obtain ⟨i, hi⟩ := List.getElem?_of_mem he
      rcases Nat.lt_or_ge i j' with h' | h'
      · subst b1
        have := c4 i e h' hi
        omega
      · rcases a3.come i e h' hi with h2 | h2
        · omega
        · rw [hc.1] at h2; exact absurd h2.1 (by simp)
    · rw [b2, b3]; exact hyl
  · refine ⟨a1, ⟨j', a3⟩, ?_, fun _ => ?_⟩
    · unfold Pt.opt
      rw [b5, b6]
      simp only [if_true]
      refine (stood_state hT1 b2 b3 b4 (fun j hj2 x hx hc => ?_)).symm
      rcases a3.come j x (by omega) hx with h2 | h2
      · omega
      · rw [hc.1] at h2; exact absurd h2.1 (by simp)
    · rw [b5]
      exact (hT.run.ok e (List.mem_of_getElem? b2)).sL b3
theorem walk_meets {p : ByteArray} {l : List En} (g : (Code.chk p).1 = 0) (h : IsRun l) (hne : l ≠ []) : ∀ k : Nat, Meets p l (firstN l + k) (walk p l k) := by
  intro k
  induction k with
  | zero =>
    have := begin_meets (p := p) h hne
    rw [show firstN l + ((0 : Nat) : Int) = firstN l by omega]
    exact this
  | succ k ih =>
    have := next_meets g ⟨h, hne, by omega⟩ ih
    rw [show firstN l + ((k + 1 : Nat) : Int) = firstN l + k + 1 by omega]
    exact this

/-- From the last state on. -/
theorem isRun_drop {l : List En} (h : IsRun l) {f : Nat} {e : En} (he : l[f]? = some e) (hs : e.st = true) : IsRun (l.drop f) := by
  refine ⟨fun x hx => h.ok x (List.mem_of_mem_drop hx), fun x hx => ?_, fun i a b ha hb => ?_⟩
  · rw [List.head?_eq_getElem?, List.getElem?_drop, Nat.add_zero, he] at hx
    cases hx
    exact hs
  · rw [List.getElem?_drop] at ha hb
    exact h.up (f + i) a b ha (by rw [show f + i + 1 = f + (i + 1) by omega]; exact hb)
theorem stood_drop {p : ByteArray} {l : List En} {n : Int} (h : Tells l n) : stood p (l.drop (fromOf l n)) n = stood p l n ∧ ∃ e, l[fromOf l n]? = some e ∧ firstN (l.drop (fromOf l n)) = e.n ∧ (e.n : Int) ≤ n ∧ IsRun (l.drop (fromOf l n)) ∧ l.drop (fromOf l n) ≠ [] := by
  obtain ⟨⟨e, he, hs, hn⟩, hl⟩ := h.from
  have hr := isRun_drop h.run he hs
  have h0 : (l.drop (fromOf l n))[0]? = some e := by rw [List.getElem?_drop, Nat.add_zero]; exact he
  have hfn : firstN (l.drop (fromOf l n)) = e.n := by
    unfold firstN
    rw [List.head?_eq_getElem?, h0]
  have hne : l.drop (fromOf l n) ≠ [] := fun hh => by rw [hh] at h0; cases h0
  have hT : Tells (l.drop (fromOf l n)) n := ⟨hr, hne, by rw [hfn]; exact hn⟩
  have hf : fromOf (l.drop (fromOf l n)) n = 0 := hT.from_is h0 hs hn (fun j hj x hx => by
    rw [List.getElem?_drop] at hx
    exact hl _ (by omega) x hx)
  refine ⟨?_, e, he, hfn, hn, hr, hne⟩
  unfold stood
  rw [hf, h0, he]
  simp only
  rw [List.drop_drop]

/-- P9: the answer: the state and the error. -/
def atErr (p : ByteArray) (l : List En) (n : Int) : Int :=
  if (Code.chk p).1 ≠ 0 then (Code.chk p).1 else if l = [] then 6 else if n < firstN l then 7 else if lastTo l < n then 8 else 0
def atOf (p : ByteArray) (l : List En) (n : Int) : StV × Int :=
  if atErr p l n ≠ 0 then (Mach.zero, atErr p l n) else match stood p l n with
    | some s => (s, 0)
    | none => (Mach.zero, 9)

/-- P10: downwards from n, so many steps. -/
def cellOf (s : StV) (c : Nat) : Nat := byt s.cells c
def down (p : ByteArray) (l : List En) (c : Nat) : Nat → Int × Int
  | 0 => (-1, 0)
  | k + 1 => match stood p l (firstN l + k) with
    | none => (0, 9)
    | some t => if ¬ some (cellOf t c) = (stood p l (firstN l + (k + 1 : Nat))).map (fun s => cellOf s c) then (firstN l + (k + 1 : Nat), 0) else down p l c k
def changedOf (p : ByteArray) (l : List En) (n cell : Int) : Int × Int :=
  if (atOf p l n).2 ≠ 0 then (0, (atOf p l n).2) else if cell < 0 ∨ 15 < cell then (0, 3) else down p l cell.toNat (n - firstN l).toNat
/-- Upwards likewise. -/
def upwards (p : ByteArray) (l : List En) (c : Nat) : Nat → Int × Int
  | 0 => (-1, 0)
  | k + 1 => if (walk p l (k + 1)).known = false then (0, 9)
    else if (walk p l k).known = true ∧ cellOf (walk p l (k + 1)).s c ≠ cellOf (walk p l k).s c then ((walk p l (k + 1)).n, 0)
    else upwards p l c k
theorem upwards_is {p : ByteArray} {l : List En} (g : (Code.chk p).1 = 0) (h : IsRun l) (hne : l ≠ []) (c : Nat) : ∀ k : Nat,
    upwards p l c k = if (walk p l k).known = true then down p l c k else (0, 9) := by
  intro k
  induction k with
  | zero =>
    have hm := begin_meets (p := p) h hne
    have hk : (walk p l 0).known = true := by
      have ho := hm.opt
      have hT : Tells l (firstN l) := ⟨h, hne, Int.le_refl _⟩
      show (beginP l).known = true
      cases hx : (beginP l).known with
      | true => rfl
      | false =>
        exfalso
        unfold Pt.opt at ho
        rw [hx] at ho
        obtain ⟨⟨e, he, hs, hn⟩, hl⟩ := hT.from
        have : stood p l (firstN l) = some e.s := stood_state hT he hs (by
          obtain ⟨e0, h0⟩ : ∃ e, l[0]? = some e := ⟨_, List.getElem?_eq_getElem hT.len⟩
          have hf : firstN l = e0.n := by unfold firstN; rw [List.head?_eq_getElem?, h0]
          rcases Nat.eq_zero_or_pos (fromOf l (firstN l)) with h' | h'
          · rw [h', h0] at he; cases he; exact hf.symm
          · have h2 := h.mono' h' h0 he
            have h3 := e0.n_le_to
            omega) (fun j hj x hx hc => hl j hj x hx ⟨hc.1, by omega⟩)
        rw [this] at ho
        simp at ho
    rw [hk]
    rfl
  | succ k ih =>
    have m0 := walk_meets g h hne k
    have m1 := walk_meets g h hne (k + 1)
    unfold upwards
    cases hk1 : (walk p l (k + 1)).known with
    | false => simp
    | true =>
      simp only [Bool.true_eq_false, if_false, if_true]
      have o1 := m1.opt
      unfold Pt.opt at o1
      rw [hk1] at o1
      simp only [if_true] at o1
      have o0 := m0.opt
      unfold Pt.opt at o0
      unfold down
      rw [← o1]
      cases hk0 : (walk p l k).known with
      | false =>
        rw [hk0] at o0
        simp only [Bool.false_eq_true, if_false] at o0
        rw [← o0, ih, hk0]
        simp
      | true =>
        rw [hk0] at o0
        simp only [if_true] at o0
        rw [← o0, ih, hk0]
        simp only [Option.map_some, Option.some.injEq, true_and, if_true, m1.time]
        by_cases hd : cellOf (walk p l (k + 1)).s c = cellOf (walk p l k).s c
        · simp [hd]
        · have hd' : ¬ cellOf (walk p l k).s c = cellOf (walk p l (k + 1)).s c := fun e => hd e.symm
          simp [hd, hd']
end Hist
end Go.Proofs.Ytcmoffiigpchiaa
