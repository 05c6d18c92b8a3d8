/- The arguments, opened: a shape, messages, a channel. -/
import Derived.Test.YtfcoljioojidnaaBulk
import Derived.Test.YtfcoljioojidnaaPut
import Derived.Lib.SmallJoins
import Derived.OpenShut
import Derived.ChangeArms
namespace Go.Proofs.Ytfcoljioojidnaa
open Go.ChangeShapes Go.WideShapes Go.ChangeAt Go.RowKit
set_option linter.unusedVariables false
set_option linter.unusedSimpArgs false

theorem list_of {α : Type} (p : Nat → α → Prop) : ∀ n, (∀ i, i < n → ∃ m, p i m) → ∃ l : List α, l.length = n ∧ ∀ i (h : i < l.length), p i l[i]
  | 0, _ => ⟨[], rfl, fun i h => by simp at h⟩
  | n + 1, h => by
    obtain ⟨l, hl, hp⟩ := list_of p n fun i hi => h i (by omega)
    obtain ⟨m, hm⟩ := h n (by omega)
    refine ⟨l ++ [m], by simp [hl], fun i hi => ?_⟩
    by_cases e : i < l.length
    · rw [List.getElem_append_left e]
      exact hp i e
    · obtain rfl : i = l.length := by simp at hi; omega
      rw [List.getElem_append_right (Nat.le_refl _)]
      simpa [hl] using hm
theorem add_off (b off k : Nat) : (⟨b, off, none⟩ : Addr).add k = ⟨b, off + k, none⟩ := by
  unfold Addr.add
  split
  · rename_i h
    subst h
    rfl
  · rfl
variable {H : Type} {enc : TypeId × Value → H} {W : World} {base : Nat} {sp : Nat → Bool} {hd : Bool} {fuel : Nat}

theorem open_row {t e : TypeId} {kk : Nat} {cs : List Value} {x : DataW H × List MemPlace} (ht : Try.prog.underlying t = some (.slice e)) (hk : Try.prog.cellsOf e = kk) (hk1 : 0 < kk) (h : DataW.trod enc Try.prog W base sp hd fuel t cs = some x) :
    ∃ o n c, cs = [.slice o n c] ∧ n ≤ Rows.uptoBulk x.1 ∧ (n = 0 ∨ ∃ g off, o = some ⟨g, off, none⟩ ∧ g < W.heap.size ∧ ∀ i, i < n → ∃ (ds : List Value) (y : DataW H × List MemPlace) (m : Nat), ds.length = kk ∧ (∀ j, j < kk → W.cell? ⟨g, off + i * kk + j, none⟩ = ds[j]?) ∧ DataW.trod enc Try.prog W base sp hd m e ds = some y ∧ Rows.uptoBulk y.1 ≤ Rows.uptoBulk x.1) := by
  rcases DataW.trod_slice ht h with ⟨hcs, _⟩ | ⟨a, l, c, elems, rest, n', _, hcs, hy, hb, hl, hm, hel, hcell, _⟩
  · exact ⟨none, 0, 0, hcs, Nat.zero_le _, .inl rfl⟩
  · have hbk : l ≤ Rows.uptoBulk x.1 := by
      rw [hy]
      refine Nat.le_trans ?_ (bulks.slice_le _ _)
      simp [hel]
    refine ⟨some a, l, c, hcs, hbk, ?_⟩
    by_cases hl0 : l = 0
    · exact .inl hl0
    · rw [hk] at hcell
      obtain ⟨ab, off, spot⟩ := a
      have hspot : spot = none := by
        have hc := hcell 0 (by omega)
        rw [List.getElem?_eq_getElem (by omega)] at hc
        obtain ⟨cs, hcs, _⟩ := Option.bind_eq_some_iff.1 hc
        obtain ⟨_, hl4, h0⟩ := World.cells?_some hcs
        have h0 := h0 0 (by omega)
        rw [List.getElem?_eq_getElem (by omega)] at h0
        have h1 := World.cell?_spot h0
        simpa [Addr.add] using h1
      subst hspot
      have hall : ∀ i, i < l → ∃ (ds : List Value) (y : DataW H × List MemPlace) (m : Nat), ds.length = kk ∧ (∀ j, j < kk → W.cell? ⟨ab, off + i * kk + j, none⟩ = ds[j]?) ∧ DataW.trod enc Try.prog W base sp hd m e ds = some y ∧ Rows.uptoBulk y.1 ≤ Rows.uptoBulk x.1 := fun i hi => by
        have hc := hcell i hi
        rw [List.getElem?_eq_getElem (by omega), add_off] at hc
        obtain ⟨cs, hcs, htr⟩ := Option.bind_eq_some_iff.1 hc
        obtain ⟨_, hl4, hcc⟩ := World.cells?_some hcs
        refine ⟨cs, _, _, hl4, fun j hj => ?_, htr, ?_⟩
        · have := hcc j hj
          rw [add_off] at this
          exact this
        · rw [hy]
          show _ ≤ Rows.uptoBulk (DataW.slice _ _)
          simp only [Rows.uptoBulk]
          have := bulks.part_le (d := (elems[i]'(by omega)).1) (l := elems.map (·.1)) (List.mem_map.2 ⟨_, List.getElem_mem _, rfl⟩)
          omega
      obtain ⟨ds, y, m, h1, h2, _⟩ := hall 0 (by omega)
      have h3 := h2 0 hk1
      rw [List.getElem?_eq_getElem (by omega)] at h3
      exact .inr ⟨ab, off, rfl, World.block_lt_of_cell? W _ h3, hall⟩

theorem one_of {α : Type} {l : List α} (h : l.length = 1) : ∃ a, l = [a] := by
  match l, h with
  | [a], _ => exact ⟨a, rfl⟩
theorem two_of {α : Type} {l : List α} (h : l.length = 2) : ∃ a b, l = [a, b] := by
  match l, h with
  | [a, b], _ => exact ⟨a, b, rfl⟩

set_option maxRecDepth 100000 in
theorem open_msg {cs : List Value} {x : DataW H × List MemPlace} (h : DataW.trod enc Try.prog W base sp hd fuel 29 cs = some x) : ∃ s m, cs = [slV s] ∧ MsgAt W s m ∧ m.length ≤ Rows.uptoBulk x.1 := by
  obtain ⟨o, n, c, rfl, hn, hr⟩ := open_row Try.underlying29 (show Try.prog.cellsOf 2 = 1 by kernel_rfl) (by decide) h
  rcases hr with h0 | ⟨g, off, ho, hg, hc⟩
  · exact ⟨⟨o, n, c⟩, [], rfl, ⟨h0, .inl rfl⟩, Nat.zero_le _⟩
  · obtain ⟨l, hl, hp⟩ := list_of (fun i (v : Int) => W.cell? ⟨g, off + i, none⟩ = some (.int .i64 v)) n fun i hi => by
      obtain ⟨ds, y, m, h1, h2, h3, _⟩ := hc i hi
      obtain ⟨a, rfl⟩ := one_of h1
      obtain ⟨v, e, _, _⟩ := DataW.trod_int Try.underlying2 h3
      simp only [List.cons.injEq, and_true] at e
      subst e
      have := h2 0 (by decide)
      simp only [Nat.mul_one, Nat.add_zero] at this
      exact ⟨v, this⟩
    subst hl
    exact ⟨⟨o, l.length, c⟩, l, rfl, ⟨rfl, .inr ⟨g, off, ho, hg, hp⟩⟩, hn⟩
set_option maxRecDepth 100000 in
theorem open_msgs {cs : List Value} {x : DataW H × List MemPlace} (h : DataW.trod enc Try.prog W base sp hd fuel 25 cs = some x) : ∃ s L l, cs = [slV s] ∧ s.n = L.length ∧ QRow W s.o L ∧ Msgs W L l ∧ L.length ≤ Rows.uptoBulk x.1 ∧ ∀ m ∈ l, m.length ≤ Rows.uptoBulk x.1 := by
  obtain ⟨o, n, c, rfl, hn, hr⟩ := open_row Try.underlying25 (show Try.prog.cellsOf 29 = 1 by kernel_rfl) (by decide) h
  rcases hr with h0 | ⟨g, off, ho, hg, hc⟩
  · exact ⟨⟨o, n, c⟩, [], [], rfl, h0, .inl rfl, ⟨rfl, fun i h => by simp at h⟩, Nat.zero_le _, fun m hm => by cases hm⟩
  · obtain ⟨l, hl, hp⟩ := list_of (fun i (v : SL × List Int) => W.cell? ⟨g, off + i, none⟩ = some (slV v.1) ∧ MsgAt W v.1 v.2 ∧ v.2.length ≤ Rows.uptoBulk x.1) n fun i hi => by
      obtain ⟨ds, y, m, h1, h2, h3, h4⟩ := hc i hi
      obtain ⟨s, q, rfl, hm, hq⟩ := open_msg h3
      have := h2 0 (by decide)
      simp only [Nat.mul_one, Nat.add_zero] at this
      exact ⟨(s, q), this, hm, Nat.le_trans hq h4⟩
    subst hl
    refine ⟨⟨o, l.length, c⟩, l.map (·.1), l.map (·.2), rfl, by simp, .inr ⟨g, off, ho, hg, fun i hi => ?_⟩, ⟨by simp, fun i h1 h2 => ?_⟩, by simpa using hn, fun m hm => ?_⟩
    · rw [List.getElem_map]
      exact (hp i (by simpa using hi)).1
    · rw [List.getElem_map, List.getElem_map]
      exact (hp i (by simpa using h1)).2.1
    · obtain ⟨v, hv, rfl⟩ := List.mem_map.1 hm
      obtain ⟨i, hi, rfl⟩ := List.mem_iff_getElem.1 hv
      exact (hp i hi).2.2
set_option maxRecDepth 100000 in
theorem open_fields {cs : List Value} {x : DataW H × List MemPlace} (h : DataW.trod enc Try.prog W base sp hd fuel 22 cs = some x) : ∃ s F, cs = [slV s] ∧ s.n = F.length ∧ FieldsAt W s.o F ∧ F.length ≤ Rows.uptoBulk x.1 := by
  obtain ⟨o, n, c, rfl, hn, hr⟩ := open_row Try.underlying22 (show Try.prog.cellsOf 47 = 2 by kernel_rfl) (by decide) h
  rcases hr with h0 | ⟨g, off, ho, hg, hc⟩
  · exact ⟨⟨o, n, c⟩, [], rfl, h0, .inl rfl, Nat.zero_le _⟩
  · obtain ⟨l, hl, hp⟩ := list_of (fun i (v : Int × Bool) => W.cell? ⟨g, off + i * 2, none⟩ = some (.int .i64 v.1) ∧ W.cell? ⟨g, off + i * 2 + 1, none⟩ = some (.bool v.2)) n fun i hi => by
      obtain ⟨ds, y, m, h1, h2, h3, h4⟩ := hc i hi
      obtain ⟨a, b, rfl⟩ := two_of h1
      obtain ⟨y0, y1, n', _, _, t0, t1⟩ := trod_struct2 Try.underlying47 h3
      simp only [show Try.prog.cellsOf 3 = 1 by kernel_rfl, show Try.prog.cellsOf 4 = 1 by kernel_rfl, List.drop_zero, List.drop_succ_cons, List.take_succ_cons, List.take_zero] at t0 t1
      obtain ⟨v, e, _, _⟩ := DataW.trod_int Try.underlying3 t0
      obtain ⟨u, e', _⟩ := DataW.trod_bool Try.underlying4 t1
      simp only [List.cons.injEq, and_true] at e e'
      subst e e'
      exact ⟨(v, u), h2 0 (by decide), h2 1 (by decide)⟩
    subst hl
    exact ⟨⟨o, l.length, c⟩, l, rfl, rfl, .inr ⟨g, off, ho, hg, hp⟩, hn⟩
end Go.Proofs.Ytfcoljioojidnaa
