import Derived.Test.YtcmoffiigpchiaaGreatHsA
import Derived.Laws.AppendOwn
namespace Go.Proofs.YtcmoffiigpchiaaGreat
open Go.RowKit

theorem infoFrame : (Tryz.prog.info? 116).map (fun i => (i.zero, i.size, i.bytes)) = some (some (.agg #[.int .u8 0, .int .i64 0, .int .i64 0, .int .i64 0, .int .i64 0, .string ⟨#[]⟩, .string ⟨#[]⟩, .int .i64 0, .int .i64 0, .int .i64 0, .bool false, .bool false, .int .i64 0, .int .i64 0, .bool false]), 15, 128) := by kernel_rfl

def lenOf : Value → Nat
  | .string s => s.size
  | _ => 0
/-- A run that a call made for itself. -/
def FRow (w wr : World) (v : Value) (l : List Hist.En) : Prop :=
  ∃ g cap, v = .slice (some ⟨g, 0, none⟩) l.length cap ∧ wr.ownsRow w.heap.size 116 15 v l.length (rowOf Hist.En.fcells l) ∧ Below w.heap.size w wr
theorem FRow.made (w : World) : FRow w (w.alloc (.cells #[] 116)) (.slice (some ⟨w.heap.size, 0, none⟩) 0 0) [] :=
  ⟨_, 0, rfl, World.ownsRow_made w #[] 0 (Nat.le_refl _) (Nat.zero_le _) (by simp), (Below.refl _ _).alloc (Nat.le_refl _) _⟩
theorem own_next {w wr w1 : World} {T : TypeId} {k g n cap : Nat} {xs : List Value} (h : wr.ownsRow w.heap.size T k (.slice (some ⟨g, 0, none⟩) n cap) n xs) (hb : Below wr.heap.size wr w1) : w1.ownsRow w.heap.size T k (.slice (some ⟨g, 0, none⟩) n cap) n xs := by
  have hlt := (h.lt g rfl).2
  obtain ⟨hl, hv⟩ := h
  refine ⟨hl, ?_⟩
  rcases hv with hv | ⟨g2, c2, cur, hv, h0, hgg, a1, a2, a3, a4⟩
  · exact .inl hv
  · simp at hv
    obtain ⟨rfl, rfl⟩ := hv
    exact .inr ⟨g, cap, cur, rfl, h0, by rw [hb.block g hlt]; exact hgg, a1, a2, a3, a4⟩
theorem FRow.next {w wr w1 : World} {v : Value} {l : List Hist.En} (h : FRow w wr v l) (hb : Below wr.heap.size wr w1) : FRow w w1 v l := by
  obtain ⟨g, cap, rfl, ho, h1⟩ := h
  exact ⟨g, cap, rfl, own_next ho hb, h1.trans (hb.mono h1.size)⟩
/-- Whether a frame goes on with a run that lies so. -/
theorem follows_code {w wr : World} {l : List Hist.En} {g cap : Nat} (hR : Hist.IsRun l) (hlen : l.length < 1000000000000) (ho : wr.ownsRow w.heap.size 116 15 (.slice (some ⟨g, 0, none⟩) l.length cap) l.length (rowOf Hist.En.fcells l)) (e : Hist.En) :
    Calls Tryz.prog 84 #[.slice (some ⟨g, 0, none⟩) l.length cap, e.fval] wr fun r w' => r = .returned (.bool (Hist.goesOn l e)) ∧ Below wr.heap.size wr w' := by
  cases hl : l.getLast? with
  | none =>
    have : l = [] := by simpa using hl
    subst this
    exact follows_none e _ cap wr
  | some a =>
    have hi : l[l.length - 1]? = some a := by rw [← List.getLast?_eq_getElem?]; exact hl
    exact follows_some l hlen a e (hR.ok a (List.mem_of_getElem? hi)) g cap hl wr (row_range fcells_length ho hi) (ho.lt g rfl).2
theorem news_cells (w : World) (cs : List Value) (t : TypeId) : ∀ j u, cs[j]? = some u → (w.alloc (.cells cs.toArray t)).cell? ((⟨w.heap.size, 0, none⟩ : Addr).add j) = some u := by
  intro j u hu
  rw [Addr.add_mid, Nat.zero_add, World.cell?_alloc_mark]
  simpa using hu
theorem one_f (e : Hist.En) : ∀ u ∈ e.fcells, u.oneCell' = true := by
  intro u hu
  simp [Hist.En.fcells] at hu
  rcases hu with rfl | rfl | rfl | rfl | rfl | rfl | rfl | rfl | rfl | rfl | rfl | rfl | rfl | rfl | rfl <;> rfl
theorem FRow.snoc {w wr w1 : World} {g cap n : Nat} {l : List Hist.En} {v' : Value} {e : Hist.En} {o : Obj} (hn : l.length = n)
    (hg : wr.ownsRow w.heap.size 116 15 (.slice (some ⟨g, 0, none⟩) n cap) n (rowOf Hist.En.fcells l)) (hb : Below w.heap.size w wr)
    (h1 : w1.ownsRow w.heap.size 116 15 v' (n + 1) (rowOf Hist.En.fcells l ++ e.fcells)) (h2 : (wr.alloc o).grownBy w1 (Value.slice (some ⟨g, 0, none⟩) n cap).ownBlock) :
    FRow w w1 v' (l ++ [e]) := by
  subst hn
  have hlt := hg.lt g rfl
  have hbel : Below w.heap.size w w1 := (hb.alloc hb.size o).grown h2 (by have := hb.size; simp; omega) (fun k hk => by
    simp [Value.ownBlock] at hk
    omega)
  have hl : (l ++ [e]).length = l.length + 1 := by simp
  rcases h1.2 with ⟨_, h0⟩ | ⟨g', cap', cur, hv, _⟩
  · omega
  · exact ⟨g', cap', by rw [hl]; exact hv, by rw [hl, rowOf_snoc]; exact h1, hbel⟩
namespace Hist
theorem runs_none (t : ByteArray) (f i : Nat) (l : List En) (h : read (t.extract (40 * i) (40 * i + 40)) = none) : runs t (f + 1) i l = l := by
  unfold runs; rw [h]
theorem runs_stop (t : ByteArray) (f i : Nat) (l : List En) (e : En) (h : read (t.extract (40 * i) (40 * i + 40)) = some e) (hg : goesOn l e = false) : runs t (f + 1) i l = l := by
  unfold runs; rw [h]; simp [hg]
theorem runs_more (t : ByteArray) (f i : Nat) (l : List En) (e : En) (h : read (t.extract (40 * i) (40 * i + 40)) = some e) (hg : goesOn l e = true) : runs t (f + 1) i l = runs t f (i + 1) (l ++ [e]) := by
  conv => lhs; unfold runs
  rw [h]; simp [hg]
end Hist

set_option maxRecDepth 100000 in
set_option maxHeartbeats 4000000 in
theorem run_code (t : ByteArray) (ht : t.size ≤ 1048576) (w : World) :
    Calls Tryz.prog 57 #[.string t] w fun e w' => ∃ v, e = .returned v ∧ FRow w w' v (Hist.run t) := by
  obtain ⟨i0, hi, hz0, hz1, hz2⟩ := info_parts infoFrame
  go_enter Tryz.func57, Tryz.ntmps57
  go_wp2_with fail
  go_loopw [0, 3] (fun x r wr => ∃ (i : Nat) (l : List Hist.En), x = .string (t.extract (40 * i) t.size) ∧ l.length = i ∧ 40 * i ≤ t.size ∧ Hist.run t = Hist.runs t (t.size / 40 - i) i l ∧ Hist.IsRun l ∧ FRow w wr r l) (fun x _ _ => lenOf x)
  case atStart => exact ⟨0, [], by simp, rfl, by omega, rfl, Hist.isRun_nil, FRow.made w⟩
  case round =>
    obtain ⟨i, l, rfl, hl, hle, hrun, hR, g, cap, rfl, hown, hb⟩ := hrel
    subst hl
    have hus := size_ex t (a := 40 * l.length) (Nat.le_refl t.size)
    have hnx : 40 * l.length + 40 ≤ t.size → (t.extract (40 * l.length) t.size).extract 40 (t.extract (40 * l.length) t.size).size = t.extract (40 * (l.length + 1)) t.size := fun h => by
      rw [hus, ex_ex t (Nat.le_refl _) (by omega), show 40 * l.length + 40 = 40 * (l.length + 1) by omega, show 40 * l.length + (t.size - 40 * l.length) = t.size by omega]
    have hfr : 40 * l.length + 40 ≤ t.size → (t.extract (40 * l.length) t.size).extract 0 40 = t.extract (40 * l.length) (40 * l.length + 40) := fun h => by
      rw [ex_ex t (Nat.le_refl _) (by omega), Nat.add_zero]
    generalize t.extract (40 * l.length) t.size = u at *
    have HUS := hide hus
    have HO := hide hown
    have HB := hide hb
    have HR := hide hR
    clear hown hb hR
    by_cases h40 : 40 ≤ u.size
    · clear hus
      have hus := unhide HUS
      have hfr := hfr (by omega)
      have HNX := hide (hnx (by omega))
      clear hnx
      obtain ⟨f, hf⟩ : ∃ f, t.size / 40 - l.length = f + 1 := ⟨t.size / 40 - l.length - 1, by omega⟩
      rw [hf] at hrun
      have hsz : (u.extract 0 40).size = 40 := by rw [size_ex u h40]
      have HRd := hide (read_code (u.extract 0 40) hsz)
      have hl6 : l.length < 1000000 := by omega
      have hsz2 : (t.extract (40 * l.length) (40 * l.length + 40)).size = 40 := by rw [← hfr]; exact hsz
      have hle2 : 40 * (l.length + 1) ≤ t.size := by omega
      have hf2 : t.size / 40 - (l.length + 1) = f := by omega
      clear hus hle
      cases hrd : Hist.read (u.extract 0 40) with
      | none =>
        rw [hfr] at hrd
        rw [Hist.runs_none t f l.length l hrd] at hrun
        rw [← hfr] at hrd
        rw [hrd] at HRd
        have HRN := hide hrun
        clear hrun hrd hfr hf
        go_wp2_with fail
        refine (unhide HRd _).mono ?_
        rintro e w1 ⟨v, rfl, hv, ⟨kd, k, n, ⟨sn, pc, regs, cells, clock, handler, back, pending, halted⟩, ⟨input, ticks, interrupt⟩, rfl⟩, hb⟩
        have HB1 := hide hb
        clear hv hb
        go_wp2_with fail
        go_ret
        refine ⟨_, rfl, ?_⟩
        rw [unhide HRN]
        exact (FRow.next ⟨g, cap, rfl, unhide HO, unhide HB⟩ (unhide HB1)).next ((Below.refl _ _).alloc (Nat.le_refl _) _)
      | some en =>
        rw [hfr] at hrd
        have hok := Hist.read_ok hsz2 hrd
        have HFo := fun wr => hide (fun (ho : World.ownsRow wr w.heap.size 116 15 (.slice (some ⟨g, 0, none⟩) l.length cap) l.length (rowOf Hist.En.fcells l)) => follows_code (w := w) (unhide HR) (by omega) ho en)
        cases hgo : Hist.goesOn l en with
        | false =>
          rw [Hist.runs_stop t f l.length l en hrd hgo] at hrun
          rw [← hfr] at hrd
          rw [hrd] at HRd
          rw [hgo] at HFo
          have HRN := hide hrun
          clear hrun hrd hfr hf hgo hok
          obtain ⟨est, ek, en', ⟨esn, epc, eregs, ecells, eclock, ehandler, eback, epending, ehalted⟩, ⟨einput, eticks, einterrupt⟩⟩ := en
          go_wp2_with fail
          refine (unhide HRd _).mono ?_
          rintro e w1 ⟨v, rfl, hv, _, hb⟩
          obtain rfl := hv _ rfl
          have HB1 := hide hb
          clear hv hb
          simp only [Hist.En.fval, Hist.En.fcells] at HFo ⊢
          go_wp2_with fail
          have O2 := hide (own_next (own_next (unhide HO) (unhide HB1)) ((Below.refl w1.heap.size w1).alloc (Nat.le_refl _) (.cells #[.int .u8 (kindN est), .int .i64 ek, .int .i64 en', .int .i64 esn, .int .i64 epc, .string eregs, .string ecells, .int .i64 eclock, .int .i64 ehandler, .int .i64 eback, .bool epending, .bool ehalted, .int .i64 einput, .int .i64 eticks, .bool einterrupt] 116)))
          refine (unhide (HFo _) (unhide O2)).mono ?_
          rintro e w2 ⟨rfl, hb⟩
          have HB2 := hide hb
          clear hb
          go_wp2_with fail
          go_ret
          refine ⟨_, rfl, ?_⟩
          rw [unhide HRN]
          exact ((FRow.next ⟨g, cap, rfl, unhide HO, unhide HB⟩ (unhide HB1)).next ((Below.refl _ _).alloc (Nat.le_refl _) _)).next (unhide HB2)
        | true =>
          rw [Hist.runs_more t f l.length l en hrd hgo] at hrun
          rw [← hfr] at hrd
          rw [hrd] at HRd
          have HRN := hide hrun
          have HR2 := hide (Hist.isRun_snoc (unhide HR) hok hgo)
          rw [hgo] at HFo
          clear hrun hrd hfr hf hgo hok
          obtain ⟨est, ek, en', ⟨esn, epc, eregs, ecells, eclock, ehandler, eback, epending, ehalted⟩, ⟨einput, eticks, einterrupt⟩⟩ := en
          go_wp2_with fail
          refine (unhide HRd _).mono ?_
          rintro e w1 ⟨v, rfl, hv, _, hb⟩
          obtain rfl := hv _ rfl
          have HB1 := hide hb
          clear hv hb
          simp only [Hist.En.fval, Hist.En.fcells] at HFo ⊢
          go_wp2_with fail
          have O2 := hide (own_next (own_next (unhide HO) (unhide HB1)) ((Below.refl w1.heap.size w1).alloc (Nat.le_refl _) (.cells #[.int .u8 (kindN est), .int .i64 ek, .int .i64 en', .int .i64 esn, .int .i64 epc, .string eregs, .string ecells, .int .i64 eclock, .int .i64 ehandler, .int .i64 eback, .bool epending, .bool ehalted, .int .i64 einput, .int .i64 eticks, .bool einterrupt] 116)))
          refine (unhide (HFo _) (unhide O2)).mono ?_
          rintro e w2 ⟨rfl, hb⟩
          have X2 := hide ((Box.new w1 #[.int .u8 (kindN est), .int .i64 ek, .int .i64 en', .int .i64 esn, .int .i64 epc, .string eregs, .string ecells, .int .i64 eclock, .int .i64 ehandler, .int .i64 eback, .bool epending, .bool ehalted, .int .i64 einput, .int .i64 eticks, .bool einterrupt] 116).next hb)
          have O3 := hide (own_next (unhide O2) hb)
          have B3 := hide ((((unhide HB).trans ((unhide HB1).mono (unhide HB).size)).alloc (Nat.le_trans (unhide HB).size (unhide HB1).size) (.cells #[.int .u8 (kindN est), .int .i64 ek, .int .i64 en', .int .i64 esn, .int .i64 epc, .string eregs, .string ecells, .int .i64 eclock, .int .i64 ehandler, .int .i64 eback, .bool epending, .bool ehalted, .int .i64 einput, .int .i64 eticks, .bool einterrupt] 116)).trans (hb.mono (by have h1 := (unhide HB).size; have h2 := (unhide HB1).size; simp; omega)))
          clear hb O2
          obtain ⟨cx, fx, gx⟩ := unhide X2
          clear gx
          have hw2 := (unhide B3).size
          go_wp2_with (at_builtin; refine wpList_append_own _ rfl _ _ 81 rfl w.heap.size 116 i0 (.agg #[.int .u8 0, .int .i64 0, .int .i64 0, .int .i64 0, .int .i64 0, .string ⟨#[]⟩, .string ⟨#[]⟩, .int .i64 0, .int .i64 0, .int .i64 0, .bool false, .bool false, .int .i64 0, .int .i64 0, .bool false]) 15 128 Tryz.underlying81 hi hz0 hz1 hz2 rfl (by decide) _ _ _ rfl ((unhide O3).alloc _) ⟨w2.heap.size, 0, none⟩ 1 1 [.int .u8 (kindN est), .int .i64 ek, .int .i64 en', .int .i64 esn, .int .i64 epc, .string eregs, .string ecells, .int .i64 eclock, .int .i64 ehandler, .int .i64 eback, .bool epending, .bool ehalted, .int .i64 einput, .int .i64 eticks, .bool einterrupt] rfl rfl (news_cells w2 _ _) (one_f ⟨est, ek, en', ⟨esn, epc, eregs, ecells, eclock, ehandler, eback, epending, ehalted⟩, ⟨einput, eticks, einterrupt⟩⟩) (by unfold maxLen; omega) (by omega) (by simp; omega) ?_; intro v' w3 hown' hgrow _; have O4 := hide hown'; have G4 := hide hgrow; clear hown' hgrow)
          go_roundw
          case rel => exact ⟨l.length + 1, l ++ [⟨est, ek, en', ⟨esn, epc, eregs, ecells, eclock, ehandler, eback, epending, ehalted⟩, ⟨einput, eticks, einterrupt⟩⟩], by rw [unhide HNX], by simp, hle2, by rw [hf2]; exact unhide HRN, unhide HR2, FRow.snoc (e := ⟨est, ek, en', ⟨esn, epc, eregs, ecells, eclock, ehandler, eback, epending, ehalted⟩, ⟨einput, eticks, einterrupt⟩⟩) rfl (unhide O3) (unhide B3) (unhide O4) (unhide G4)⟩
          case measure =>
            show (u.extract 40 u.size).size < u.size
            rw [size_ex u (Nat.le_refl _)]
            omega
    · have HRN : Hid (Hist.run t = l) := hide (by
        have hus := unhide HUS
        rw [hrun, show t.size / 40 - l.length = 0 by omega]
        rfl)
      clear hrun hfr hnx hus
      go_wp2_with fail
      go_ret
      refine ⟨_, rfl, ?_⟩
      rw [unhide HRN]
      exact ⟨g, cap, rfl, unhide HO, unhide HB⟩
end Go.Proofs.YtcmoffiigpchiaaGreat
