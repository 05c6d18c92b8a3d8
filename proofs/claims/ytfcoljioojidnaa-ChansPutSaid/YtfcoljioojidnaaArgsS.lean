/- The arguments, opened, with the form's own reach. -/
import Derived.Test.YtfcoljioojidnaaArgs
import Derived.SizedLaws
namespace Go.Proofs.Ytfcoljioojidnaa
open Go.ChangeShapes Go.WideShapes Go.ChangeAt Go.RowKit
set_option linter.unusedVariables false
set_option linter.unusedSimpArgs false

theorem weightsAll_mem {H : Type} {P : Program} {e : TypeId} : ∀ {l : List (DataW H)} {d : DataW H}, d ∈ l → ∀ k ∈ DataW.weights P e d, k ∈ DataW.weightsAll P e l
  | x :: l, d, hd, k, hk => by
    simp only [DataW.weightsAll, List.mem_append]
    rcases List.mem_cons.1 hd with rfl | hd
    · exact .inl hk
    · exact .inr (weightsAll_mem hd k hk)
def Fits {H : Type} (t : TypeId) (d : DataW H) : Prop := ∀ k ∈ DataW.weights Try.prog t d, k ≤ reachBytes
variable {H : Type} {enc : TypeId × Value → H} {W : World} {base : Nat} {sp : Nat → Bool} {hd : Bool} {fuel : Nat}

theorem open_rowS {t e : TypeId} {kk bb : Nat} {cs : List Value} {x : DataW H × List MemPlace} (ht : Try.prog.underlying t = some (.slice e)) (hk : Try.prog.cellsOf e = kk) (hk1 : 0 < kk) (hbb : Try.prog.bytesOf e = bb) (h : DataW.trod enc Try.prog W base sp hd fuel t cs = some x) (hw : Fits t x.1) :
    ∃ o n c, cs = [.slice o n c] ∧ n * bb ≤ reachBytes ∧ (n = 0 ∨ ∃ g off, o = some ⟨g, off, none⟩ ∧ g < W.heap.size ∧ ∀ i, i < n → ∃ (ds : List Value) (y : DataW H × List MemPlace) (m : Nat), ds.length = kk ∧ (∀ j, j < kk → W.cell? ⟨g, off + i * kk + j, none⟩ = ds[j]?) ∧ DataW.trod enc Try.prog W base sp hd m e ds = some y ∧ Fits e y.1) := by
  rcases DataW.trod_slice ht h with ⟨hcs, _⟩ | ⟨a, l, c, elems, rest, n', _, hcs, hy, hb, hl, hm, hel, hcell, _⟩
  · exact ⟨none, 0, 0, hcs, by simp, .inl rfl⟩
  · have hbk : l * bb ≤ reachBytes := by
      have h1 : ((elems.map (·.1)).length + (rest.map (·.1)).length) * Try.prog.bytesOf e ≤ reachBytes := hw _ (by
        rw [hy]
        simp only [DataW.weights, ht]
        exact List.mem_cons_self ..)
      rw [hbb, List.length_map, hel] at h1
      exact Nat.le_trans (Nat.mul_le_mul_right _ (Nat.le_add_right _ _)) h1
    refine ⟨some a, l, c, hcs, hbk, ?_⟩
    by_cases hl0 : l = 0
    · exact .inl hl0
    · rw [hk] at hcell
      obtain ⟨ab, off, spot⟩ := a
      have hspot : spot = none := by
        have hc := hcell 0 (by omega)
        rw [List.getElem?_eq_getElem (by omega)] at hc
        obtain ⟨cs, hcs, _⟩ := Option.bind_eq_some_iff.1 hc
        obtain ⟨_, hl4, h0⟩ := World.cells?_some hcs
        have h0 := h0 0 (by omega)
        rw [List.getElem?_eq_getElem (by omega)] at h0
        have h1 := World.cell?_spot h0
        simpa [Addr.add] using h1
      subst hspot
      have hall : ∀ i, i < l → ∃ (ds : List Value) (y : DataW H × List MemPlace) (m : Nat), ds.length = kk ∧ (∀ j, j < kk → W.cell? ⟨ab, off + i * kk + j, none⟩ = ds[j]?) ∧ DataW.trod enc Try.prog W base sp hd m e ds = some y ∧ Fits e y.1 := fun i hi => by
        have hc := hcell i hi
        rw [List.getElem?_eq_getElem (by omega), add_off] at hc
        obtain ⟨cs, hcs, htr⟩ := Option.bind_eq_some_iff.1 hc
        obtain ⟨_, hl4, hcc⟩ := World.cells?_some hcs
        refine ⟨cs, _, _, hl4, fun j hj => ?_, htr, fun k hk => hw k ?_⟩
        · have := hcc j hj
          rw [add_off] at this
          exact this
        · rw [hy]
          simp only [DataW.weights, ht]
          refine List.mem_cons_of_mem _ (List.mem_append_left _ (weightsAll_mem ?_ k hk))
          exact List.mem_map.2 ⟨_, List.getElem_mem _, rfl⟩
      obtain ⟨ds, y, m, h1, h2, _⟩ := hall 0 (by omega)
      have h3 := h2 0 hk1
      rw [List.getElem?_eq_getElem (by omega)] at h3
      exact .inr ⟨ab, off, rfl, World.block_lt_of_cell? W _ h3, hall⟩

set_option maxRecDepth 100000 in
theorem open_msgS {cs : List Value} {x : DataW H × List MemPlace} (h : DataW.trod enc Try.prog W base sp hd fuel 29 cs = some x) (hw : Fits 29 x.1) : ∃ s m, cs = [slV s] ∧ MsgAt W s m ∧ m.length * 8 ≤ reachBytes := by
  obtain ⟨o, n, c, rfl, hn, hr⟩ := open_rowS Try.underlying29 (show Try.prog.cellsOf 2 = 1 by kernel_rfl) (by decide) (show Try.prog.bytesOf 2 = 8 by kernel_rfl) h hw
  rcases hr with h0 | ⟨g, off, ho, hg, hc⟩
  · exact ⟨⟨o, n, c⟩, [], rfl, ⟨h0, .inl rfl⟩, by simp⟩
  · obtain ⟨l, hl, hp⟩ := list_of (fun i (v : Int) => W.cell? ⟨g, off + i, none⟩ = some (.int .i64 v)) n fun i hi => by
      obtain ⟨ds, y, m, h1, h2, h3, _⟩ := hc i hi
      obtain ⟨a, rfl⟩ := one_of h1
      obtain ⟨v, e, _, _⟩ := DataW.trod_int Try.underlying2 h3
      simp only [List.cons.injEq, and_true] at e
      subst e
      have := h2 0 (by decide)
      simp only [Nat.mul_one, Nat.add_zero] at this
      exact ⟨v, this⟩
    subst hl
    exact ⟨⟨o, l.length, c⟩, l, rfl, ⟨rfl, .inr ⟨g, off, ho, hg, hp⟩⟩, hn⟩
set_option maxRecDepth 100000 in
theorem open_msgsS {cs : List Value} {x : DataW H × List MemPlace} (h : DataW.trod enc Try.prog W base sp hd fuel 25 cs = some x) (hw : Fits 25 x.1) : ∃ s L l, cs = [slV s] ∧ s.n = L.length ∧ QRow W s.o L ∧ Msgs W L l ∧ L.length * 24 ≤ reachBytes ∧ ∀ m ∈ l, m.length * 8 ≤ reachBytes := by
  obtain ⟨o, n, c, rfl, hn, hr⟩ := open_rowS Try.underlying25 (show Try.prog.cellsOf 29 = 1 by kernel_rfl) (by decide) (show Try.prog.bytesOf 29 = 24 by kernel_rfl) h hw
  rcases hr with h0 | ⟨g, off, ho, hg, hc⟩
  · exact ⟨⟨o, n, c⟩, [], [], rfl, h0, .inl rfl, ⟨rfl, fun i h => by simp at h⟩, by simp, fun m hm => by cases hm⟩
  · obtain ⟨l, hl, hp⟩ := list_of (fun i (v : SL × List Int) => W.cell? ⟨g, off + i, none⟩ = some (slV v.1) ∧ MsgAt W v.1 v.2 ∧ v.2.length * 8 ≤ reachBytes) n fun i hi => by
      obtain ⟨ds, y, m, h1, h2, h3, h4⟩ := hc i hi
      obtain ⟨s, q, rfl, hm, hq⟩ := open_msgS h3 h4
      have := h2 0 (by decide)
      simp only [Nat.mul_one, Nat.add_zero] at this
      exact ⟨(s, q), this, hm, hq⟩
    subst hl
    refine ⟨⟨o, l.length, c⟩, l.map (·.1), l.map (·.2), rfl, by simp, .inr ⟨g, off, ho, hg, fun i hi => ?_⟩, ⟨by simp, fun i h1 h2 => ?_⟩, by simpa using hn, fun m hm => ?_⟩
    · rw [List.getElem_map]
      exact (hp i (by simpa using hi)).1
    · rw [List.getElem_map, List.getElem_map]
      exact (hp i (by simpa using h1)).2.1
    · obtain ⟨v, hv, rfl⟩ := List.mem_map.1 hm
      obtain ⟨i, hi, rfl⟩ := List.mem_iff_getElem.1 hv
      exact (hp i hi).2.2
set_option maxRecDepth 100000 in
theorem open_fieldsS {cs : List Value} {x : DataW H × List MemPlace} (h : DataW.trod enc Try.prog W base sp hd fuel 22 cs = some x) (hw : Fits 22 x.1) : ∃ s F, cs = [slV s] ∧ s.n = F.length ∧ FieldsAt W s.o F ∧ F.length * 16 ≤ reachBytes := by
  obtain ⟨o, n, c, rfl, hn, hr⟩ := open_rowS Try.underlying22 (show Try.prog.cellsOf 47 = 2 by kernel_rfl) (by decide) (show Try.prog.bytesOf 47 = 16 by kernel_rfl) h hw
  rcases hr with h0 | ⟨g, off, ho, hg, hc⟩
  · exact ⟨⟨o, n, c⟩, [], rfl, h0, .inl rfl, by simp⟩
  · obtain ⟨l, hl, hp⟩ := list_of (fun i (v : Int × Bool) => W.cell? ⟨g, off + i * 2, none⟩ = some (.int .i64 v.1) ∧ W.cell? ⟨g, off + i * 2 + 1, none⟩ = some (.bool v.2)) n fun i hi => by
      obtain ⟨ds, y, m, h1, h2, h3, h4⟩ := hc i hi
      obtain ⟨a, b, rfl⟩ := two_of h1
      obtain ⟨y0, y1, n', _, _, t0, t1⟩ := trod_struct2 Try.underlying47 h3
      simp only [show Try.prog.cellsOf 3 = 1 by kernel_rfl, show Try.prog.cellsOf 4 = 1 by kernel_rfl, List.drop_zero, List.drop_succ_cons, List.take_succ_cons, List.take_zero] at t0 t1
      obtain ⟨v, e, _, _⟩ := DataW.trod_int Try.underlying3 t0
      obtain ⟨u, e', _⟩ := DataW.trod_bool Try.underlying4 t1
      simp only [List.cons.injEq, and_true] at e e'
      subst e e'
      exact ⟨(v, u), h2 0 (by decide), h2 1 (by decide)⟩
    subst hl
    exact ⟨⟨o, l.length, c⟩, l, rfl, rfl, .inr ⟨g, off, ho, hg, hp⟩, hn⟩
/-- A part of a struct of two. -/
theorem fits_agg2 {t a b : TypeId} {fa fb : _} {x y : DataW H} (ht : Try.prog.underlying t = some (.struct #[fa, fb])) (ha : fa.type = a) (hb : fb.type = b) (h : Fits t (.agg [x, y])) : Fits a x ∧ Fits b y := by
  subst ha hb
  refine ⟨fun k hk => h k ?_, fun k hk => h k ?_⟩
  all_goals (simp only [DataW.weights, ht, DataW.weightsEach, List.map_cons, List.map_nil, List.mem_append]; simp [hk])
end Go.Proofs.Ytfcoljioojidnaa
