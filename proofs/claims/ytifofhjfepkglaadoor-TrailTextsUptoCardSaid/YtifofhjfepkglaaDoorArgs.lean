/- The arguments, opened: an end, and what the library's variables hold. -/
import Derived.Test.YtifofhjfepkglaaDoorBulk
import Derived.Test.YtifofhjfepkglaaDoorBack
import Derived.Lib.SmallJoins
import Derived.OpenShut
import Derived.ChangeArms
namespace Go.Proofs.YtifofhjfepkglaaDoor
open Go.ChangeShapes Go.WideShapes Go.ChangeAt Go.RowKit
set_option linter.unusedVariables false
set_option linter.unusedSimpArgs false

theorem in_of {n : Int} (h : (Lit.int .i64 n).wf = true) : inI n := by
  have := Joins.in64_of_wf h
  exact this
theorem list_of {α : Type} (p : Nat → α → Prop) : ∀ n, (∀ i, i < n → ∃ m, p i m) → ∃ l : List α, l.length = n ∧ ∀ i (h : i < l.length), p i l[i]
  | 0, _ => ⟨[], rfl, fun i h => by simp at h⟩
  | n + 1, h => by
    obtain ⟨l, hl, hp⟩ := list_of p n fun i hi => h i (by omega)
    obtain ⟨m, hm⟩ := h n (by omega)
    refine ⟨l ++ [m], by simp [hl], fun i hi => ?_⟩
    by_cases e : i < l.length
    · rw [List.getElem_append_left e]
      exact hp i e
    · obtain rfl : i = l.length := by simp at hi; omega
      rw [List.getElem_append_right (Nat.le_refl _)]
      simpa [hl] using hm
theorem add_off (b off k : Nat) : (⟨b, off, none⟩ : Addr).add k = ⟨b, off + k, none⟩ := by
  unfold Addr.add
  split
  · rename_i h
    subst h
    rfl
  · rfl

theorem len7 {α : Type} {l : List α} (h : l.length = 7) : ∃ a b c d e f g, l = [a, b, c, d, e, f, g] := by
  match l, h with
  | [a, b, c, d, e, f, g], _ => exact ⟨a, b, c, d, e, f, g, rfl⟩
theorem len8 {α : Type} {l : List α} (h : l.length = 8) : ∃ a b c d e f g i, l = [a, b, c, d, e, f, g, i] := by
  match l, h with
  | [a, b, c, d, e, f, g, i], _ => exact ⟨a, b, c, d, e, f, g, i, rfl⟩
theorem trod7 {H : Type} {enc : TypeId × Value → H} {P : Program} {w : World} {base : Nat} {spare : Nat → Bool} {held : Bool} {t : TypeId} {f0 f1 f2 f3 f4 f5 f6 : Field} {fuel : Nat} {cs : List Value} {x : DataW H × List MemPlace} (ht : P.underlying t = some (.struct #[f0, f1, f2, f3, f4, f5, f6])) (h : DataW.trod enc P w base spare held fuel t cs = some x) :
    ∃ (y0 y1 y2 y3 y4 y5 y6 : DataW H × List MemPlace) (n : Nat), x.1 = .agg [y0.1, y1.1, y2.1, y3.1, y4.1, y5.1, y6.1] ∧ DataW.trod enc P w base spare held n f0.type ((cs.drop f0.offset).take (P.cellsOf f0.type)) = some y0 ∧ DataW.trod enc P w base spare held n f1.type ((cs.drop f1.offset).take (P.cellsOf f1.type)) = some y1 ∧ DataW.trod enc P w base spare held n f2.type ((cs.drop f2.offset).take (P.cellsOf f2.type)) = some y2 ∧ DataW.trod enc P w base spare held n f3.type ((cs.drop f3.offset).take (P.cellsOf f3.type)) = some y3 ∧ DataW.trod enc P w base spare held n f4.type ((cs.drop f4.offset).take (P.cellsOf f4.type)) = some y4 ∧ DataW.trod enc P w base spare held n f5.type ((cs.drop f5.offset).take (P.cellsOf f5.type)) = some y5 ∧ DataW.trod enc P w base spare held n f6.type ((cs.drop f6.offset).take (P.cellsOf f6.type)) = some y6 := by
  obtain ⟨xs, n, _, rfl, hl, hlen, hf⟩ := DataW.trod_struct ht h
  match xs, hlen with
  | [y0, y1, y2, y3, y4, y5, y6], _ => exact ⟨y0, y1, y2, y3, y4, y5, y6, n, by simp, by simpa using hf 0 f0 rfl, by simpa using hf 1 f1 rfl, by simpa using hf 2 f2 rfl, by simpa using hf 3 f3 rfl, by simpa using hf 4 f4 rfl, by simpa using hf 5 f5 rfl, by simpa using hf 6 f6 rfl⟩
theorem trod8 {H : Type} {enc : TypeId × Value → H} {P : Program} {w : World} {base : Nat} {spare : Nat → Bool} {held : Bool} {t : TypeId} {f0 f1 f2 f3 f4 f5 f6 f7 : Field} {fuel : Nat} {cs : List Value} {x : DataW H × List MemPlace} (ht : P.underlying t = some (.struct #[f0, f1, f2, f3, f4, f5, f6, f7])) (h : DataW.trod enc P w base spare held fuel t cs = some x) :
    ∃ (y0 y1 y2 y3 y4 y5 y6 y7 : DataW H × List MemPlace) (n : Nat), x.1 = .agg [y0.1, y1.1, y2.1, y3.1, y4.1, y5.1, y6.1, y7.1] ∧ DataW.trod enc P w base spare held n f0.type ((cs.drop f0.offset).take (P.cellsOf f0.type)) = some y0 ∧ DataW.trod enc P w base spare held n f1.type ((cs.drop f1.offset).take (P.cellsOf f1.type)) = some y1 ∧ DataW.trod enc P w base spare held n f2.type ((cs.drop f2.offset).take (P.cellsOf f2.type)) = some y2 ∧ DataW.trod enc P w base spare held n f3.type ((cs.drop f3.offset).take (P.cellsOf f3.type)) = some y3 ∧ DataW.trod enc P w base spare held n f4.type ((cs.drop f4.offset).take (P.cellsOf f4.type)) = some y4 ∧ DataW.trod enc P w base spare held n f5.type ((cs.drop f5.offset).take (P.cellsOf f5.type)) = some y5 ∧ DataW.trod enc P w base spare held n f6.type ((cs.drop f6.offset).take (P.cellsOf f6.type)) = some y6 ∧ DataW.trod enc P w base spare held n f7.type ((cs.drop f7.offset).take (P.cellsOf f7.type)) = some y7 := by
  obtain ⟨xs, n, _, rfl, hl, hlen, hf⟩ := DataW.trod_struct ht h
  match xs, hlen with
  | [y0, y1, y2, y3, y4, y5, y6, y7], _ => exact ⟨y0, y1, y2, y3, y4, y5, y6, y7, n, by simp, by simpa using hf 0 f0 rfl, by simpa using hf 1 f1 rfl, by simpa using hf 2 f2 rfl, by simpa using hf 3 f3 rfl, by simpa using hf 4 f4 rfl, by simpa using hf 5 f5 rfl, by simpa using hf 6 f6 rfl, by simpa using hf 7 f7 rfl⟩
/-- A move in memory, read. -/
theorem open_move {H : Type} {enc : TypeId × Value → H} {W : World} {base : Nat} {sp : Nat → Bool} {hd : Bool} {fuel : Nat} {ab off : Nat} {x : DataW H × List MemPlace}
    (h : (W.cells? base ⟨ab, off, none⟩ 7).bind (DataW.trod enc Tryd.prog W base sp hd fuel 47) = some x) : ab < W.heap.size ∧ ∃ m, MvAt W ab off m ∧ ∀ n ∈ mvL m, inI n := by
  obtain ⟨cs, hcs, htr⟩ := Option.bind_eq_some_iff.1 h
  obtain ⟨_, hl, hcc⟩ := World.cells?_some hcs
  have k3 : Tryd.prog.cellsOf 3 = 1 := by kernel_rfl
  obtain ⟨c0, c1, c2, c3, c4, c5, c6, rfl⟩ := len7 hl
  obtain ⟨y0, y1, y2, y3, y4, y5, y6, n, _, t0, t1, t2, t3, t4, t5, t6⟩ := trod7 Tryd.underlying47 htr
  simp only [k3, List.drop_zero, List.drop_succ_cons, List.take_succ_cons, List.take_zero] at t0 t1 t2 t3 t4 t5 t6
  obtain ⟨n0, e0, _, w0⟩ := DataW.trod_int Tryd.underlying3 t0
  obtain ⟨n1, e1, _, w1⟩ := DataW.trod_int Tryd.underlying3 t1
  obtain ⟨n2, e2, _, w2⟩ := DataW.trod_int Tryd.underlying3 t2
  obtain ⟨n3, e3, _, w3⟩ := DataW.trod_int Tryd.underlying3 t3
  obtain ⟨n4, e4, _, w4⟩ := DataW.trod_int Tryd.underlying3 t4
  obtain ⟨n5, e5, _, w5⟩ := DataW.trod_int Tryd.underlying3 t5
  obtain ⟨n6, e6, _, w6⟩ := DataW.trod_int Tryd.underlying3 t6
  simp only [List.cons.injEq, and_true] at e0 e1 e2 e3 e4 e5 e6
  subst e0 e1 e2 e3 e4 e5 e6
  have q0 := hcc 0 (by simp)
  have q1 := hcc 1 (by simp)
  have q2 := hcc 2 (by simp)
  have q3 := hcc 3 (by simp)
  have q4 := hcc 4 (by simp)
  have q5 := hcc 5 (by simp)
  have q6 := hcc 6 (by simp)
  simp only [add_off] at q0 q1 q2 q3 q4 q5 q6
  refine ⟨World.block_lt_of_cell? W _ q0, ⟨n0, n1, n2, n3, n4, n5, n6⟩, ⟨q0, q1, q2, q3, q4, q5, q6⟩, fun n hn => ?_⟩
  simp [mvL] at hn
  rcases hn with rfl | rfl | rfl | rfl | rfl | rfl | rfl
  · exact in_of w0
  · exact in_of w1
  · exact in_of w2
  · exact in_of w3
  · exact in_of w4
  · exact in_of w5
  · exact in_of w6

set_option maxRecDepth 100000 in
theorem open_found {H : Type} {enc : TypeId × Value → H} {W : World} {sp : Nat → Bool} {hd : Bool} {b0 : Nat} {v : Value} {d : DataW H} {p : List MemPlace} (hv : Value.okWide Tryd.prog W .any b0 25 v) (h : DataW.Trod enc Tryd.prog W 0 sp hd 25 v d p) :
    ∃ (f : FD) (o : Option Addr) (cap : Nat), v = fdV f (.slice o f.trail.length cap) ∧ TrAt W o f.trail ∧ FIn f ∧ f.trail.length ≤ Rows.uptoBulk d := by
  obtain ⟨cs, rfl, hsz⟩ := okWide_struct Tryd.underlying25 hv
  obtain ⟨fuel, hf⟩ := h
  have k25 : Tryd.prog.cellsOf 25 = 8 := by kernel_rfl
  have k3 : Tryd.prog.cellsOf 3 = 1 := by kernel_rfl
  have k22 : Tryd.prog.cellsOf 22 = 1 := by kernel_rfl
  have k23 : Tryd.prog.cellsOf 23 = 1 := by kernel_rfl
  have k47 : Tryd.prog.cellsOf 47 = 7 := by kernel_rfl
  obtain ⟨ls⟩ := cs
  obtain ⟨c0, c1, c2, c3, c4, c5, c6, c7, rfl⟩ := len8 (l := ls) (by have := hsz.trans k25; simpa using this)
  obtain ⟨y0, y1, y2, y3, y4, y5, y6, y7, n, hd0, t0, t1, t2, t3, t4, t5, t6, t7⟩ := trod8 Tryd.underlying25 hf
  simp only [Value.cells, k3, k22, k23, List.drop_zero, List.drop_succ_cons, List.take_succ_cons, List.take_zero] at t0 t1 t2 t3 t4 t5 t6 t7
  obtain ⟨n0, e0, _, w0⟩ := DataW.trod_int Tryd.underlying3 t0
  obtain ⟨n1, e1, _, w1⟩ := DataW.trod_int Tryd.underlying3 t1
  obtain ⟨n2, e2, _, w2⟩ := DataW.trod_int Tryd.underlying22 t2
  obtain ⟨n3, e3, _, w3⟩ := DataW.trod_int Tryd.underlying3 t3
  obtain ⟨n5, e5, _, w5⟩ := DataW.trod_int Tryd.underlying3 t5
  obtain ⟨n6, e6, _, w6⟩ := DataW.trod_int Tryd.underlying3 t6
  obtain ⟨n7, e7, _, w7⟩ := DataW.trod_int Tryd.underlying3 t7
  simp only [List.cons.injEq, and_true] at e0 e1 e2 e3 e5 e6 e7
  subst e0 e1 e2 e3 e5 e6 e7
  simp only at hd0
  have hb4 : Rows.uptoBulk y4.1 ≤ Rows.uptoBulk d := by rw [hd0]; exact bulks.agg_le (by simp)
  rcases DataW.trod_slice Tryd.underlying23 t4 with ⟨hcs, _⟩ | ⟨x, l, c, elems, rest, n', _, hcs, hy, hb, hl, hm, hel, hcell, _⟩
  · simp only [List.cons.injEq, and_true] at hcs
    subst hcs
    refine ⟨⟨n0, n1, n2, n3, [], n5, n6, n7⟩, none, 0, rfl, .inl rfl, ⟨fun k hk => ?_, fun m hm => by cases hm⟩, by simp⟩
    simp [fdL] at hk
    rcases hk with rfl | rfl | rfl | rfl | rfl | rfl
    · exact in_of w0
    · exact in_of w1
    · exact in_of w2
    · exact in_of w3
    · exact in_of w6
    · exact in_of w7
  · simp only [List.cons.injEq, and_true] at hcs
    subst hcs
    rw [k47] at hcell
    obtain ⟨ab, off, spot⟩ := x
    have hmoves : ∃ tr : List MV, tr.length = l ∧ (l = 0 ∨ (spot = none ∧ ab < W.heap.size)) ∧ ∀ i (h : i < tr.length), MvAt W ab (off + i * 7) tr[i] ∧ ∀ k ∈ mvL tr[i], inI k := by
      by_cases hl0 : l = 0
      · exact ⟨[], hl0.symm, .inl hl0, fun i hi => by simp at hi⟩
      · have hspot : spot = none := by
          have hc := hcell 0 (by omega)
          rw [List.getElem?_eq_getElem (by omega)] at hc
          obtain ⟨cs, hcs, _⟩ := Option.bind_eq_some_iff.1 hc
          obtain ⟨_, hl4, h0⟩ := World.cells?_some hcs
          have h0 := h0 0 (by decide)
          rw [List.getElem?_eq_getElem (by omega)] at h0
          have h1 := World.cell?_spot h0
          simpa [Addr.add] using h1
        subst hspot
        have hall : ∀ i, i < l → ab < W.heap.size ∧ ∃ m, MvAt W ab (off + i * 7) m ∧ ∀ k ∈ mvL m, inI k := fun i hi => by
          have hc := hcell i hi
          rw [List.getElem?_eq_getElem (by omega), add_off] at hc
          exact open_move hc
        obtain ⟨tr, ht, hp⟩ := list_of (fun i m => MvAt W ab (off + i * 7) m ∧ ∀ k ∈ mvL m, inI k) l fun i hi => (hall i hi).2
        exact ⟨tr, ht, .inr ⟨rfl, (hall 0 (by omega)).1⟩, hp⟩
    obtain ⟨tr, rfl, hor, hp⟩ := hmoves
    refine ⟨⟨n0, n1, n2, n3, tr, n5, n6, n7⟩, some ⟨ab, off, spot⟩, c, rfl, ?_, ⟨fun k hk => ?_, fun m hm => ?_⟩, ?_⟩
    · rcases hor with h0 | ⟨rfl, h1⟩
      · exact .inl h0
      · exact .inr ⟨ab, off, rfl, h1, fun i hi => (hp i hi).1⟩
    · simp [fdL] at hk
      rcases hk with rfl | rfl | rfl | rfl | rfl | rfl
      · exact in_of w0
      · exact in_of w1
      · exact in_of w2
      · exact in_of w3
      · exact in_of w6
      · exact in_of w7
    · obtain ⟨i, hi, rfl⟩ := List.getElem_of_mem hm
      exact (hp i hi).2
    · refine Nat.le_trans ?_ hb4
      rw [hy]
      refine Nat.le_trans ?_ (bulks.slice_le _ _)
      simp [hel]
end Go.Proofs.YtifofhjfepkglaaDoor
