import Derived.Test.YtcmoffiigpchiabGreatBase
import Derived.OrdersHeld
namespace Go.Proofs.YtcmoffiigpchiabGreat
open Go.RowKit
/-! A region whose last operation waits for all the others: it is the others in any order, and then the last. -/
section
variable {P : Program} {front : Array Oper} {o : Oper} {Q : Exit → Act → World → Prop}

def lastPost (P : Program) (front : Array Oper) (o : Oper) (Q : Exit → Act → World → Prop) : Exit → Act → World → Prop
  | .normal, a, w => wpOp P (front.push o) Q front.size (fun a w => Q .normal a w) a w
  | e, a, w => Q e a w

theorem upon_post {x : Oper} {a : Act} {K : Act → World → Prop} {Q1 Q2 : Exit → Act → World → Prop} (hp : ∀ c a w, Q1 (.panic c) a w → Q2 (.panic c) a w) (hl : LetsOut Q1 → LetsOut Q2) :
    ∀ r, x.upon P a K Q1 r → x.upon P a K Q2 r := by
  intro r h
  cases r with
  | ok n w' =>
    cases n <;> simp only [Oper.upon] at h ⊢ <;> first | exact h | (refine Calls.mono h (fun e w'' he => ?_); cases e <;> first | exact he | exact hp _ _ _ he | exact hl he)
  | halt y w' => cases y <;> simp only [Oper.upon] at h ⊢ <;> exact hp _ _ _ h

structure Chain (front : Array Oper) (o : Oper) : Prop where
  down : ∀ (j : Nat) (x : Oper), front[j]? = some x → ∀ e ∈ x.after, Region.binds .any e = true → e.on < j
  guard : ∀ (j : Nat) (x : Oper), front[j]? = some x → ∀ g b, x.guard = some (g, b) → g < front.size
  on : ∀ j, j < front.size → ∃ k x, j < k ∧ k ≤ front.size ∧ (front.push o)[k]? = some x ∧ ∃ e ∈ x.after, Region.binds .any e = true ∧ e.on = j
  last : ∀ e ∈ o.after, Region.binds .any e = true → e.on < front.size

def chainB (front : Array Oper) (o : Oper) : Bool :=
  ((List.range front.size).all fun j =>
    (match front[j]? with
      | some x => (x.after.all fun e => !Region.binds .any e || decide (e.on < j)) && (match x.guard with
        | some (g, _) => decide (g < front.size)
        | none => true)
      | none => true) &&
    ((List.range (front.size + 1)).any fun k => decide (j < k) && (match (front.push o)[k]? with
      | some x => x.after.any fun e => Region.binds .any e && e.on == j
      | none => false))) &&
  (o.after.all fun e => !Region.binds .any e || decide (e.on < front.size))
theorem chain_of (h : chainB front o = true) : Chain front o := by
  unfold chainB at h
  rw [Bool.and_eq_true, List.all_eq_true] at h
  obtain ⟨h1, h2⟩ := h
  have hin : ∀ (j : Nat) (x : Oper), front[j]? = some x → j < front.size := fun j x hx => (Array.getElem?_eq_some_iff.1 hx).1
  refine ⟨fun j x hx e he hb => ?_, fun j x hx g b hg => ?_, fun j hj => ?_, fun e he hb => ?_⟩
  · have := h1 j (List.mem_range.2 (hin j x hx))
    rw [hx, Bool.and_eq_true] at this
    have t := this.1
    simp only [Bool.and_eq_true] at t
    have t1 := Array.all_eq_true_iff_forall_mem.1 t.1 e he
    rw [hb] at t1
    simpa using t1
  · have := h1 j (List.mem_range.2 (hin j x hx))
    rw [hx, Bool.and_eq_true] at this
    have t := this.1
    simp only [Bool.and_eq_true, hg] at t
    simpa using t.2
  · have := h1 j (List.mem_range.2 hj)
    rw [Bool.and_eq_true] at this
    obtain ⟨k, hk, hk2⟩ := List.any_eq_true.1 this.2
    rw [Bool.and_eq_true] at hk2
    obtain ⟨hjk, hx⟩ := hk2
    have hk' := List.mem_range.1 hk
    cases hxx : (front.push o)[k]? with
    | none => rw [hxx] at hx; cases hx
    | some x =>
      rw [hxx] at hx
      obtain ⟨e, he, hb⟩ := Array.any_eq_true'.1 hx
      rw [Bool.and_eq_true] at hb
      exact ⟨k, x, of_decide_eq_true hjk, by omega, hxx, e, he, hb.1, by simpa using hb.2⟩
  · have t1 := Array.all_eq_true_iff_forall_mem.1 h2 e he
    rw [hb] at t1
    simpa using t1

theorem push_lt {j : Nat} (h : j < front.size) : (front.push o)[j]? = front[j]? := by
  rw [Array.getElem?_push]
  simp [Nat.ne_of_lt h]
theorem push_at : (front.push o)[front.size]? = some o := by simp
theorem getD_lt {l : Array Bool} {j : Nat} {b d : Bool} (h : j < l.size) : (l.push b).getD j d = l.getD j d := by
  simp only [Array.getD_eq_getD_getElem?]
  rw [Array.getElem?_push]
  simp [Nat.ne_of_lt h]
theorem getD_two {l : Array Bool} {j : Nat} {c d : Bool} (h : j < l.size) : l.getD j c = l.getD j d := by
  simp [Array.getD_eq_getD_getElem?, h]

structure Closed (front : Array Oper) (l : Array Bool) : Prop where
  size : l.size = front.size
  up : ∀ (j : Nat) (x : Oper), front[j]? = some x → l.getD j false = true → ∀ e ∈ x.after, Region.binds .any e = true → l.getD e.on false = true
theorem ready_front (hc : Chain front o) {l : Array Bool} (hl : Closed front l) {j : Nat} (hj : j < front.size) : j ∈ Region.ready .any (front.push o) (l.push false) ↔ j ∈ Region.ready .any front l := by
  have hs := hl.size
  rw [mem_ready, mem_ready, getD_lt (by omega), push_lt hj]
  constructor
  · rintro ⟨h1, x, hx, h2⟩
    exact ⟨h1, x, hx, fun e he hb => by have := h2 e he hb; rw [getD_lt (by have := hc.down j x hx e he hb; omega)] at this; exact this⟩
  · rintro ⟨h1, x, hx, h2⟩
    exact ⟨h1, x, hx, fun e he hb => by rw [getD_lt (by have := hc.down j x hx e he hb; omega)]; exact h2 e he hb⟩
theorem all_of_last (hc : Chain front o) {l : Array Bool} (hl : Closed front l) (h : front.size ∈ Region.ready .any (front.push o) (l.push false)) : ∀ d j, j + d = front.size → j < front.size → l.getD j false = true := by
  have hs := hl.size
  obtain ⟨_, x, hx, hall⟩ := mem_ready.1 h
  rw [push_at] at hx
  cases hx
  intro d
  induction d using Nat.strongRecOn with
  | ind d ih =>
    intro j hd hj
    obtain ⟨k, y, h1, h2, h3, e, he, hb, hon⟩ := hc.on j hj
    rcases Nat.lt_or_ge k front.size with hk | hk
    · have hyk := ih (front.size - k) (by omega) k (by omega) hk
      rw [push_lt hk] at h3
      have := hl.up k y h3 hyk e he hb
      rw [hon] at this
      exact this
    · have : k = front.size := by omega
      subst this
      rw [push_at] at h3
      cases h3
      have := hall e he hb
      rw [hon, getD_lt (by omega)] at this
      exact this
theorem all_of_none (hc : Chain front o) {l : Array Bool} (hl : Closed front l) (h : Region.ready .any front l = []) : ∀ j, j < front.size → l.getD j false = true := by
  have hs := hl.size
  intro j
  induction j using Nat.strongRecOn with
  | ind j ih =>
    intro hj
    cases hx : l.getD j false with
    | true => rfl
    | false =>
      exfalso
      have : j ∈ Region.ready .any front l := by
        rw [mem_ready]
        obtain ⟨x, hxx⟩ : ∃ x, front[j]? = some x := ⟨_, Array.getElem?_eq_getElem hj⟩
        refine ⟨by rw [getD_two (d := false) (by omega)]; exact hx, x, hxx, fun e he hb => ?_⟩
        have := hc.down j x hxx e he hb
        exact ih e.on this (by omega)
      rw [h] at this
      cases this
theorem none_of_all {l : Array Bool} (hl : Closed front l) (h : ∀ j, j < front.size → l.getD j false = true) : Region.ready .any front l = [] := by
  have hs := hl.size
  cases hr : Region.ready .any front l with
  | nil => rfl
  | cons j r =>
    exfalso
    have hm : j ∈ Region.ready .any front l := by rw [hr]; simp
    obtain ⟨h1, x, hx, _⟩ := mem_ready.1 hm
    have hj := (Array.getElem?_eq_some_iff.1 hx).1
    have := h j hj
    rw [getD_two (d := true) (by omega), h1] at this
    cases this
theorem last_ready (hc : Chain front o) {l : Array Bool} (hl : Closed front l) (h : ∀ j, j < front.size → l.getD j false = true) : front.size ∈ Region.ready .any (front.push o) (l.push false) := by
  have hs := hl.size
  rw [mem_ready]
  refine ⟨?_, o, push_at, fun e he hb => ?_⟩
  · rw [← hs]; simp [Array.getD_eq_getD_getElem?]
  · have := hc.last e he hb
    rw [getD_lt (by omega)]
    exact h _ this
theorem last_done {l : Array Bool} (hl : Closed front l) (h : ∀ j, j < front.size → l.getD j false = true) : Region.ready .any (front.push o) ((l.push false).setIfInBounds front.size true) = [] := by
  have hs := hl.size
  cases hr : Region.ready .any (front.push o) ((l.push false).setIfInBounds front.size true) with
  | nil => rfl
  | cons j r =>
    exfalso
    have hm : j ∈ Region.ready .any (front.push o) ((l.push false).setIfInBounds front.size true) := by rw [hr]; simp
    obtain ⟨h1, x, hx, _⟩ := mem_ready.1 hm
    have hj := (Array.getElem?_eq_some_iff.1 hx).1
    rw [Array.size_push] at hj
    rw [Array.getD_eq_getD_getElem?, Array.getElem?_setIfInBounds] at h1
    by_cases e : front.size = j
    · rw [if_pos e] at h1
      simp [hs] at h1
    · rw [if_neg e] at h1
      have h2 := h j (by omega)
      have : (l.push false).getD j true = l.getD j true := getD_lt (by omega)
      rw [Array.getD_eq_getD_getElem?, h1, getD_two (d := false) (by omega), h2] at this
      cases this
theorem closed_set {l0 : Array Bool} (hl : Closed front l0) {i : Nat} (hi : i ∈ Region.ready .any front l0) : Closed front (l0.setIfInBounds i true) := by
  have hs := hl.size
  refine ⟨by simpa using hs, fun j x hx hj e he hb => ?_⟩
  have hget : ∀ k, l0.getD k false = true → (l0.setIfInBounds i true).getD k false = true := fun k hk => by
    rw [Array.getD_eq_getD_getElem?] at hk ⊢
    rw [Array.getElem?_setIfInBounds]
    split
    · split
      · rfl
      · rename_i h1 h2
        subst h1
        rw [Array.getElem?_eq_none (by omega)] at hk
        cases hk
    · exact hk
  obtain ⟨_, y, hy, hall⟩ := mem_ready.1 hi
  by_cases e' : i = j
  · subst e'
    rw [hy] at hx
    cases hx
    exact hget _ (hall e he hb)
  · rw [Array.getD_eq_getD_getElem?, Array.getElem?_setIfInBounds, if_neg e', ← Array.getD_eq_getD_getElem?] at hj
    exact hget _ (hl.up j x hx hj e he hb)
theorem set_push {l : Array Bool} {i : Nat} (h : i < l.size) : (l.push false).setIfInBounds i true = (l.setIfInBounds i true).push false := by
  apply Array.ext_getElem?
  intro j
  rw [Array.getElem?_setIfInBounds, Array.getElem?_push, Array.getElem?_push, Array.getElem?_setIfInBounds, Array.size_push, Array.size_setIfInBounds]
  by_cases e : i = j
  · subst e
    have h1 : i < l.size + 1 := Nat.lt_succ_of_lt h
    have h2 : ¬ i = l.size := Nat.ne_of_lt h
    simp [h, h1, h2]
  · rw [if_neg e, if_neg e]
theorem wpOp_front (hc : Chain front o) {i : Nat} (hi : i < front.size) {K : Act → World → Prop} {a : Act} {w : World} (h : wpOp P front (lastPost P front o Q) i K a w) : wpOp P (front.push o) Q i K a w := by
  have hlet : LetsOut (lastPost P front o Q) → LetsOut Q := fun ⟨a, w, q⟩ => ⟨a, w, q⟩
  unfold wpOp at h ⊢
  rw [push_lt hi]
  cases hx : front[i]? with
  | none => rw [hx] at h; exact h
  | some x =>
    rw [hx] at h
    simp only at h ⊢
    have hw : Region.wanted x (yielded (front.push o) a.tmps) = Region.wanted x (yielded front a.tmps) := by
      unfold Region.wanted
      cases hg : x.guard with
      | none => rfl
      | some gb =>
        obtain ⟨g, b⟩ := gb
        simp only
        unfold yielded
        rw [push_lt (hc.guard i x hx g b hg)]
    rw [hw]
    split
    · rename_i hh
      rw [if_pos hh] at h
      rcases h with h | ⟨h1, h2⟩
      · exact .inl (upon_post (fun _ _ _ q => q) hlet _ h)
      · exact .inr ⟨h1, hlet h2⟩
    · rename_i hh
      rw [if_neg hh] at h
      exact h
theorem any_done (hc : Chain front o) {l : Array Bool} (hl : Closed front l) {a : Act} {w : World} (hr : Region.ready .any front l = []) (hq : lastPost P front o Q .normal a w) (f : Nat) : wpAny P .any (front.push o) Q (f + 1) (l.push false) a w := by
  have hall := all_of_none hc hl hr
  have hin := last_ready hc hl hall
  refine ⟨(fun h0 => by rw [h0] at hin; cases hin), fun i hi => ?_⟩
  have hlt : i < front.size + 1 := by
    obtain ⟨_, x, hx, _⟩ := mem_ready.1 hi
    have := (Array.getElem?_eq_some_iff.1 hx).1
    rwa [Array.size_push] at this
  rcases Nat.lt_or_ge i front.size with h' | h'
  · rw [ready_front hc hl h', hr] at hi
    cases hi
  · have : i = front.size := by omega
    subst this
    exact wpOp_mono (fun a w hq => wpAny_done (last_done hl hall) hq f) hq
theorem any_last (hc : Chain front o) : ∀ (f : Nat) (l : Array Bool) (a : Act) (w : World), Closed front l → wpAny P .any front (lastPost P front o Q) f l a w → wpAny P .any (front.push o) Q (f + 1) (l.push false) a w := by
  intro f
  induction f with
  | zero =>
    intro l a w hl h
    exact any_done hc hl h.1 h.2 0
  | succ f ih =>
    intro l a w hl h
    have hs := hl.size
    obtain ⟨h0, h1⟩ := h
    by_cases hr : Region.ready .any front l = []
    · exact any_done hc hl hr (h0 hr) (f + 1)
    · refine ⟨fun hz => ?_, fun i hi => ?_⟩
      · exfalso
        cases hrr : Region.ready .any front l with
        | nil => exact hr hrr
        | cons j r =>
          have hm : j ∈ Region.ready .any front l := by rw [hrr]; simp
          obtain ⟨_, x, hx, _⟩ := mem_ready.1 hm
          have := (ready_front hc hl (Array.getElem?_eq_some_iff.1 hx).1).2 hm
          rw [hz] at this
          cases this
      · have hlt : i < front.size + 1 := by
          obtain ⟨_, x, hx, _⟩ := mem_ready.1 hi
          have := (Array.getElem?_eq_some_iff.1 hx).1
          rwa [Array.size_push] at this
        rcases Nat.lt_or_ge i front.size with h' | h'
        · have hm := (ready_front hc hl h').1 hi
          rw [set_push (by omega)]
          exact wpOp_front hc h' (wpOp_mono (fun a w hw => ih _ a w (closed_set hl hm) hw) (h1 i hm))
        · have : i = front.size := by omega
          subst this
          exact absurd (none_of_all hl (fun j hj => all_of_last hc hl hi (front.size - j) j (by omega) hj)) hr
/-- The last one. -/
theorem last_step {a : Act} {w : World} (hg : o.guard = none) (h : ∀ K : Act → World → Prop, Hid (∀ a w, Q .normal a w → K a w) → Oper.wp P o a w K Q) : lastPost P front o Q .normal a w := by
  show wpOp P (front.push o) Q front.size (fun a w => Q .normal a w) a w
  unfold wpOp
  rw [push_at]
  simp only
  have hw : Region.wanted o (yielded (front.push o) a.tmps) = true := by simp [Region.wanted, hg]
  rw [if_pos hw]
  exact .inl (h _ (hide (fun _ _ q => q)))
/-- The region: the others in any order, S held; then the last. -/
theorem region_last {S : World → Prop} {id : Nat} {ops : Array Oper} {a : Act} {w : World} (hm : P.follows .mixedOrders = true) (he : ops = front.push o) (hc : chainB front o = true)
    (h : wpAnyH P .any front (lastPost P front o Q) S front.size (Array.replicate front.size false) a w.drew) : (Code.region id ops true).wp P Q a w := by
  subst he
  refine wp_region_any hm ?_
  have := any_last (chain_of hc) front.size (Array.replicate front.size false) a w.drew ⟨by simp, fun j x hx hj => ?_⟩ (wpAny_of_held _ _ _ _ h)
  · rw [Array.size_push, Array.replicate_succ]
    exact this
  · exfalso
    have hj' := (Array.getElem?_eq_some_iff.1 hx).1
    simp [Array.getD_eq_getD_getElem?, hj'] at hj
theorem region_last2 {S : World → Prop} {id : Nat} {ops : Array Oper} {a : Act} {w : World} (n : Nat) (o : Oper) (hn : ops[n]? = some o) (hz : ops.size = n + 1) (hm : P.follows .mixedOrders = true) (hc : chainB ops.pop o = true)
    (hS : S w.drew) (h : S w.drew → wpAnyH P .any ops.pop (lastPost P ops.pop o Q) S n (Array.replicate n false) a w.drew) : (Code.region id ops true).wp P Q a w := by
  have hp : ops.pop.size = n := by rw [Array.size_pop, hz]; rfl
  refine region_last (S := S) hm ?_ hc (by rw [hp]; exact h hS)
  apply Array.ext_getElem?
  intro i
  rw [Array.getElem?_push, hp]
  by_cases e : i = n
  · subst e; simp [hn]
  · rw [if_neg e, Array.getElem?_pop, hz]
    split
    · rfl
    · rw [Array.getElem?_eq_none (by omega)]
end
end Go.Proofs.YtcmoffiigpchiabGreat
