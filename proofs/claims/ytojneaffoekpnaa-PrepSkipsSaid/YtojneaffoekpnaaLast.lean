/- The last step of Macros and Inlines: the end is put behind what was told, and the results are laid. -/
import Derived.Test.YtojneaffoekpnaaDoor
import Derived.Deep.AppendLies
namespace Go.Proofs.Ytojneaffoekpnaa
open Go.ChangeShapes Go.WideShapes Go.ChangeAt Go.RowKit
set_option linter.unusedVariables false
set_option linter.unusedSimpArgs false

/-- The three cells of the results, and the user, in memory. -/
structure Made (w W : World) (b r : Nat) (fl : Bool) (mo : Dic) : Prop where
  bel : Below w.heap.size w W
  c0 : W.heap[w.heap.size]? = some (.cells #[.slice none 0 0] 22 (0, 0))
  c1 : W.heap[w.heap.size + 1]? = some (.cells #[.int .i64 0] 27 (0, 0))
  c2 : W.heap[w.heap.size + 1 + 1]? = some (.cells #[.int .i64 0] 3 (0, 0))
  hb : w.heap.size + 1 + 1 < b
  usr : Usr W b r fl 0 (.slice none 0 0) mo
  hrb : r ≠ b
  hzr : w.heap.size + 1 + 1 < r
theorem Made.below {w W W' : World} {b r : Nat} {fl : Bool} {mo : Dic} (h : Made w W b r fl mo) (hb : Below W.heap.size W W') : Made w W' b r fl mo :=
  ⟨h.bel.trans (hb.mono h.bel.size), (hb.block _ (lt_of_block h.c0)).trans h.c0, (hb.block _ (lt_of_block h.c1)).trans h.c1, (hb.block _ (lt_of_block h.c2)).trans h.c2, h.hb, h.usr.below hb, h.hrb, h.hzr⟩
theorem made_of {w w1 w2 : World} {fl : Bool}
    (h1 : Below (((w.alloc (.cells #[.slice none 0 0] 22)).alloc (.cells #[.int .i64 0] 27)).alloc (.cells #[.int .i64 0] 3)).heap.size (((w.alloc (.cells #[.slice none 0 0] 22)).alloc (.cells #[.int .i64 0] 27)).alloc (.cells #[.int .i64 0] 3)) w1)
    (h2 : w2 = (w1.alloc (.map #[] 0)).alloc (.cells #[.bool fl, .map (some w1.heap.size), .int .i64 0, .slice none 0 0] 49)) : Made w w2 (w1.heap.size + 1) w1.heap.size fl none := by
  have s1 : (w.alloc (.cells #[.slice none 0 0] 22)).heap.size = w.heap.size + 1 := World.size_alloc _ _
  have s2 : ((w.alloc (.cells #[.slice none 0 0] 22)).alloc (.cells #[.int .i64 0] 27)).heap.size = w.heap.size + 1 + 1 := by rw [World.size_alloc, s1]
  have s3 : (((w.alloc (.cells #[.slice none 0 0] 22)).alloc (.cells #[.int .i64 0] 27)).alloc (.cells #[.int .i64 0] 3)).heap.size = w.heap.size + 1 + 1 + 1 := by rw [World.size_alloc, s2]
  have a0 : (w.alloc (.cells #[.slice none 0 0] 22)).heap[w.heap.size]? = some (.cells #[.slice none 0 0] 22 (0, 0)) := heap_alloc_new _ _
  have a1 : ((w.alloc (.cells #[.slice none 0 0] 22)).alloc (.cells #[.int .i64 0] 27)).heap[w.heap.size + 1]? = some (.cells #[.int .i64 0] 27 (0, 0)) := by
    have := heap_alloc_new (w.alloc (.cells #[.slice none 0 0] 22)) (.cells #[.int .i64 0] 27)
    rwa [s1] at this
  have a2 : (((w.alloc (.cells #[.slice none 0 0] 22)).alloc (.cells #[.int .i64 0] 27)).alloc (.cells #[.int .i64 0] 3)).heap[w.heap.size + 1 + 1]? = some (.cells #[.int .i64 0] 3 (0, 0)) := by
    have := heap_alloc_new ((w.alloc (.cells #[.slice none 0 0] 22)).alloc (.cells #[.int .i64 0] 27)) (.cells #[.int .i64 0] 3)
    rwa [s2] at this
  have b1 : Below (w.heap.size + 1) (w.alloc (.cells #[.slice none 0 0] 22)) ((w.alloc (.cells #[.slice none 0 0] 22)).alloc (.cells #[.int .i64 0] 27)) := (Below.refl _ _).alloc (by rw [s1]; exact Nat.le_refl _) _
  have b2 : Below (w.heap.size + 1 + 1) ((w.alloc (.cells #[.slice none 0 0] 22)).alloc (.cells #[.int .i64 0] 27)) (((w.alloc (.cells #[.slice none 0 0] 22)).alloc (.cells #[.int .i64 0] 27)).alloc (.cells #[.int .i64 0] 3)) := (Below.refl _ _).alloc (by rw [s2]; exact Nat.le_refl _) _
  have b0 : Below w.heap.size w (w.alloc (.cells #[.slice none 0 0] 22)) := (Below.refl _ _).alloc (Nat.le_refl _) _
  rw [s3] at h1
  have h3 : Below w1.heap.size w1 (w1.alloc (.map #[] 0)) := (Below.refl _ _).alloc (Nat.le_refl _) _
  have s4 : (w1.alloc (.map #[] 0)).heap.size = w1.heap.size + 1 := World.size_alloc _ _
  have h4 : Below (w1.heap.size + 1) (w1.alloc (.map #[] 0)) w2 := by rw [h2]; exact (Below.refl _ _).alloc (by rw [s4]; exact Nat.le_refl _) _
  have h12 : Below w1.heap.size w1 w2 := h3.trans (h4.mono (by omega))
  have hs1 := h1.size
  rw [s3] at hs1
  have b03 := (b0.trans (b1.mono (by omega))).trans (b2.mono (by omega))
  have b13 := b1.trans (b2.mono (by omega))
  refine ⟨(b03.trans (h1.mono (by omega))).trans (h12.mono (by omega)), ?_, ?_, ?_, by omega, ⟨?_, ?_⟩, by omega, by omega⟩
  · exact (h12.block _ (by omega)).trans ((h1.block _ (by omega)).trans ((b13.block _ (by omega)).trans a0))
  · exact (h12.block _ (by omega)).trans ((h1.block _ (by omega)).trans ((b2.block _ (by omega)).trans a1))
  · exact (h12.block _ (by omega)).trans ((h1.block _ (by omega)).trans a2)
  · rw [h2]
    have := heap_alloc_new (w1.alloc (.map #[] 0)) (.cells #[.bool fl, .map (some w1.heap.size), .int .i64 0, .slice none 0 0] 49)
    rwa [s4] at this
  · exact (h4.block _ (by omega)).trans (heap_alloc_new w1 (.map #[] 0))

/-- Behind what is told: ahead of the last step. -/
structure Near (w W : World) (b base g j : Nat) (v : Value) (ts0 : List TK) (t : TK) : Prop where
  bel : Below w.heap.size w W
  c0 : W.heap[w.heap.size]? = some (.cells #[.slice none 0 0] 22 (0, 0))
  c1 : W.heap[w.heap.size + 1]? = some (.cells #[.int .i64 0] 27 (0, 0))
  c2 : W.heap[w.heap.size + 1 + 1]? = some (.cells #[.int .i64 0] 3 (0, 0))
  hb : w.heap.size + 1 + 1 < b
  hbb : b < base
  hbase : base ≤ W.heap.size
  hg : g < w.heap.size
  told : W.cell? ⟨b, 3, none⟩ = some v
  own : W.ownsRow base 25 5 v ts0.length (cellsOf ts0)
  tok : TkAt W g j t
theorem near_of {w W W' : World} {b r g j : Nat} {fl : Bool} {mo : Dic} {ts0 : List TK} {t : TK} (h : Made w W b r fl mo) (hg : g < w.heap.size) (ht : TkAt W g j t) (hT : Told W W' b fl r mo ts0) : ∃ v, Near w W' b W.heap.size g j v ts0 t := by
  obtain ⟨hgr, v, m, hrow, _, hown⟩ := hT
  have hbW : b < W.heap.size := lt_of_block h.usr.obj
  have hs := h.bel.size
  have hB : Below b W W' := ⟨hgr.os, hgr.tape, hgr.output, hgr.size, fun k hk => hgr.block k (by omega) (by simp; omega)⟩
  have hbb := h.hb
  exact ⟨v, h.bel.trans (hB.mono (by omega)), (hB.block _ (by omega)).trans h.c0, (hB.block _ (by omega)).trans h.c1, (hB.block _ (by omega)).trans h.c2, h.hb, hbW, hgr.size, hg, (cell_of_row _ _ _ _ _ _ hrow).trans rfl, hown, tk_below ht (hB.mono (by omega))⟩

/-- What the region's loads read. -/
def Loads (W : World) (b g j : Nat) (v : Value) (t : TK) : Prop :=
  W.cell? ⟨b, 3, none⟩ = some v ∧ W.cell? ⟨g, j, none⟩ = some (.int .i64 t.kind) ∧ W.cell? ⟨g, j + 1, none⟩ = some (.int .i64 t.pos) ∧ W.cell? ⟨g, j + 2, none⟩ = some (.int .i64 t.line) ∧ W.cell? ⟨g, j + 3, none⟩ = some (.string t.text) ∧ W.cell? ⟨g, j + 4, none⟩ = some (.int .i64 t.num)
section
variable {w W W2 : World} {b base g j g2 cap2 : Nat} {v : Value} {ts0 : List TK} {t : TK}
theorem Near.loads (h : Near w W b base g j v ts0 t) : Loads W b g j v t := ⟨h.told, h.tok.1, h.tok.2.1, h.tok.2.2.1, h.tok.2.2.2.1, h.tok.2.2.2.2⟩
theorem Near.alloc (h : Near w W b base g j v ts0 t) (o : Obj) : Near w (W.alloc o) b base g j v ts0 t := by
  have hs := h.bel.size
  have e := h.hb
  have e1 := h.hbb
  have e2 := h.hbase
  have e3 := h.hg
  have hB : Below W.heap.size W (W.alloc o) := (Below.refl _ _).alloc (Nat.le_refl _) _
  exact ⟨h.bel.trans (hB.mono hs), (hB.block _ (by omega)).trans h.c0, (hB.block _ (by omega)).trans h.c1, (hB.block _ (by omega)).trans h.c2, e, e1, Nat.le_trans e2 hB.size, e3, (hB.cell (by show b < _; omega)).trans h.told, h.own.alloc o, tk_below h.tok (hB.mono (by omega))⟩
theorem Near.drew (h : Near w W b base g j v ts0 t) : Near w W.drew b base g j v ts0 t :=
  ⟨h.bel.drew, h.c0, h.c1, h.c2, h.hb, h.hbb, h.hbase, h.hg, h.told, h.own, h.tok⟩

/-- Behind the append: what the stores ask, what they keep, and what stands behind them. -/
theorem Near.push (h : Near w W b base g j v ts0 t) (hgr : W.grownBy W2 v.ownBlock) (hown : W2.ownsRow base 25 5 (.slice (some ⟨g2, 0, none⟩) (ts0.length + 1) cap2) (ts0.length + 1) (cellsOf ts0 ++ tkCells t)) :
    (W2.cell? ⟨w.heap.size, 0, none⟩ = some (.slice none 0 0) ∧ W2.cell? ⟨w.heap.size + 1, 0, none⟩ = some (.int .i64 0) ∧ W2.cell? ⟨w.heap.size + 1 + 1, 0, none⟩ = some (.int .i64 0)) ∧
    (W2.frozen? ⟨w.heap.size, 0, none⟩ = false ∧ W2.frozen? ⟨w.heap.size + 1, 0, none⟩ = false ∧ W2.frozen? ⟨w.heap.size + 1 + 1, 0, none⟩ = false) ∧
    Loads W2 b g j v t ∧ Loads (W2.setCell ⟨w.heap.size, 0, none⟩ (.slice (some ⟨g2, 0, none⟩) (ts0.length + 1) cap2)) b g j v t ∧
    Loads ((W2.setCell ⟨w.heap.size, 0, none⟩ (.slice (some ⟨g2, 0, none⟩) (ts0.length + 1) cap2)).setCell ⟨w.heap.size + 1, 0, none⟩ (.int .i64 0)) b g j v t ∧
    Loads (((W2.setCell ⟨w.heap.size, 0, none⟩ (.slice (some ⟨g2, 0, none⟩) (ts0.length + 1) cap2)).setCell ⟨w.heap.size + 1, 0, none⟩ (.int .i64 0)).setCell ⟨w.heap.size + 1 + 1, 0, none⟩ (.int .i64 0)) b g j v t := by
  have hs := h.bel.size
  have e := h.hb
  have e1 := h.hbb
  have e2 := h.hbase
  have e3 := h.hg
  have hB : Below base W W2 := (Below.refl base W).grown hgr e2 fun k hk => (h.own.lt k hk).1
  have d0 := (hB.block _ (by omega)).trans h.c0
  have d1 := (hB.block _ (by omega)).trans h.c1
  have d2 := (hB.block _ (by omega)).trans h.c2
  have hl : Loads W2 b g j v t := ⟨(hB.cell e1).trans h.told, (hB.cell (by show g < _; omega)).trans h.tok.1, (hB.cell (by show g < _; omega)).trans h.tok.2.1, (hB.cell (by show g < _; omega)).trans h.tok.2.2.1, (hB.cell (by show g < _; omega)).trans h.tok.2.2.2.1, (hB.cell (by show g < _; omega)).trans h.tok.2.2.2.2⟩
  have hset : ∀ (X : World) (z : Nat) (u : Value), Loads X b g j v t → z ≠ b → z ≠ g → Loads (X.setCell ⟨z, 0, none⟩ u) b g j v t := by
    intro X z u hX h1 h2
    have hc : ∀ a : Addr, a.block ≠ z → (X.setCell ⟨z, 0, none⟩ u).cell? a = X.cell? a := fun a ha => World.cell?_setCell_other X _ a u (fun e => ha (by rw [← e]))
    exact ⟨(hc _ (Ne.symm h1)).trans hX.1, (hc _ (Ne.symm h2)).trans hX.2.1, (hc _ (Ne.symm h2)).trans hX.2.2.1, (hc _ (Ne.symm h2)).trans hX.2.2.2.1, (hc _ (Ne.symm h2)).trans hX.2.2.2.2.1, (hc _ (Ne.symm h2)).trans hX.2.2.2.2.2⟩
  refine ⟨⟨(cell_of_row _ _ _ _ _ _ d0).trans rfl, (cell_of_row _ _ _ _ _ _ d1).trans rfl, (cell_of_row _ _ _ _ _ _ d2).trans rfl⟩, ⟨frozen_of_row _ _ _ _ _ d0, frozen_of_row _ _ _ _ _ d1, frozen_of_row _ _ _ _ _ d2⟩, hl, hset _ _ _ hl (by omega) (by omega), hset _ _ _ (hset _ _ _ hl (by omega) (by omega)) (by omega) (by omega), hset _ _ _ (hset _ _ _ (hset _ _ _ hl (by omega) (by omega)) (by omega) (by omega)) (by omega) (by omega)⟩

/-- The end: whatever new blocks the deferred call has laid. -/
theorem Near.ends (h : Near w W b base g j v ts0 t) (hgr : W.grownBy W2 v.ownBlock) (hown : W2.ownsRow base 25 5 (.slice (some ⟨g2, 0, none⟩) (ts0.length + 1) cap2) (ts0.length + 1) (cellsOf ts0 ++ tkCells t)) (W3 W4 : World)
    (h3 : W3 = ((W2.setCell ⟨w.heap.size, 0, none⟩ (.slice (some ⟨g2, 0, none⟩) (ts0.length + 1) cap2)).setCell ⟨w.heap.size + 1, 0, none⟩ (.int .i64 0)).setCell ⟨w.heap.size + 1 + 1, 0, none⟩ (.int .i64 0)) (h4 : Below W3.heap.size W3 W4) :
    W4.cell? ⟨w.heap.size, 0, none⟩ = some (.slice (some ⟨g2, 0, none⟩) (ts0.length + 1) cap2) ∧ W4.cell? ⟨w.heap.size + 1, 0, none⟩ = some (.int .i64 0) ∧ W4.cell? ⟨w.heap.size + 1 + 1, 0, none⟩ = some (.int .i64 0) ∧
    Row w W4 (.slice (some ⟨g2, 0, none⟩) (ts0.length + 1) cap2) (ts0 ++ [t]) := by
  obtain ⟨⟨p0, p1, p2⟩, _⟩ := h.push hgr hown
  have hs := h.bel.size
  have e := h.hb
  have e1 := h.hbb
  have e2 := h.hbase
  have hB : Below base W W2 := (Below.refl base W).grown hgr e2 fun k hk => (h.own.lt k hk).1
  have hsz2 : W2.heap.size = W3.heap.size := by rw [h3]; simp [World.setCell]
  have hW2 := hB.size
  have hne : ∀ (X : World) (z z' : Nat) (u : Value), z ≠ z' → (X.setCell ⟨z, 0, none⟩ u).cell? ⟨z', 0, none⟩ = X.cell? ⟨z', 0, none⟩ := fun X z z' u hz => World.cell?_setCell_other X _ _ u (fun e => hz (congrArg Addr.block e))
  have q0 : W3.cell? ⟨w.heap.size, 0, none⟩ = some (.slice (some ⟨g2, 0, none⟩) (ts0.length + 1) cap2) := by
    rw [h3, hne _ _ _ _ (by omega), hne _ _ _ _ (by omega), World.cell?_setCell_same _ _ _ p0]
  have q1 : W3.cell? ⟨w.heap.size + 1, 0, none⟩ = some (.int .i64 0) := by
    rw [h3, hne _ _ _ _ (by omega)]
    refine World.cell?_setCell_same _ _ _ (u := .int .i64 0) ?_
    rw [hne _ _ _ _ (by omega), p1]
  have q2 : W3.cell? ⟨w.heap.size + 1 + 1, 0, none⟩ = some (.int .i64 0) := by
    rw [h3]
    refine World.cell?_setCell_same _ _ _ (u := .int .i64 0) ?_
    rw [hne _ _ _ _ (by omega), hne _ _ _ _ (by omega), p2]
  have hB3 : Below w.heap.size W2 W3 := by
    rw [h3]
    exact (((Below.refl _ _).setCell (p := ⟨w.heap.size, 0, none⟩) (by show _ ≤ w.heap.size; omega) _).setCell (p := ⟨w.heap.size + 1, 0, none⟩) (by show _ ≤ w.heap.size + 1; omega) _).setCell (p := ⟨w.heap.size + 1 + 1, 0, none⟩) (by show _ ≤ w.heap.size + 1 + 1; omega) _
  have hown3 : W3.ownsRow base 25 5 (.slice (some ⟨g2, 0, none⟩) (ts0.length + 1) cap2) (ts0.length + 1) (cellsOf ts0 ++ tkCells t) := by
    rcases hown with ⟨hl, hh⟩
    refine ⟨hl, ?_⟩
    rcases hh with ⟨hv, _⟩ | ⟨g', cap', cur, hv, hbg, hrow, hr⟩
    · cases hv
    · cases hv
      refine Or.inr ⟨g2, cap2, cur, rfl, hbg, ?_, hr⟩
      rw [h3, heap_setCell_other _ _ _ _ (by show g2 ≠ _; simp only; omega), heap_setCell_other _ _ _ _ (by show g2 ≠ _; simp only; omega), heap_setCell_other _ _ _ _ (by show g2 ≠ _; simp only; omega)]
      exact hrow
  refine ⟨(h4.cell (by show w.heap.size < _; omega)).trans q0, (h4.cell (by show w.heap.size + 1 < _; omega)).trans q1, (h4.cell (by show w.heap.size + 1 + 1 < _; omega)).trans q2, ?_, ((h.bel.trans (hB.mono (by omega))).trans hB3).trans (h4.mono (by omega))⟩
  rw [cellsOf_snoc, List.length_append]
  refine (hown3.kept (row := none) ⟨h4.os, h4.tape, h4.output, h4.size, fun k hk _ => h4.block k hk⟩ (.inr (by simp [Value.ownBlock]))).mono (by omega)
end
end Go.Proofs.Ytojneaffoekpnaa
