/- What a proctype uses: memory. -/
import Derived.Test.YtflfjbmbholloaaGUMath
import Derived.Test.YtflfjbmbholloaaGExprs
import Derived.Deep.AppendLies
namespace Go.Proofs.Ytflfjbmbholloaa
open Go.ChangeShapes Go.WideShapes Go.ChangeAt Go.RowKit
set_option linter.unusedVariables false

def leftV (l : List Int) : List Value := l.map (.int .i64)
/-- Blocks of other kinds than ints and checkers stay. -/
def Oth (W W' : World) : Prop := ∀ (b : Nat) (cs : Array Value) (T : TypeId) (fr : Nat × Nat), T ≠ 3 → T ≠ 49 → W.heap[b]? = some (.cells cs T fr) → W'.heap[b]? = some (.cells cs T fr)
structure Gn (B : Nat) (W W' : World) : Prop where
  bel : Below B W W'
  oth : Oth W W'
theorem Gn.refl (B : Nat) (W : World) : Gn B W W := ⟨Below.refl _ _, fun _ _ _ _ _ _ h => h⟩
theorem Gn.trans {B : Nat} {a b c : World} (h : Gn B a b) (h2 : Gn B b c) : Gn B a c := ⟨h.bel.trans h2.bel, fun x cs T fr h1 h3 h4 => h2.oth x cs T fr h1 h3 (h.oth x cs T fr h1 h3 h4)⟩
theorem Gn.of {B : Nat} {a b : World} (h : Below a.heap.size a b) (hB : B ≤ a.heap.size) : Gn B a b := ⟨h.mono hB, fun x cs T fr _ _ h3 => (h.block _ (lt_of_block h3)).trans h3⟩
theorem Gn.size {B : Nat} {a b : World} (h : Gn B a b) : a.heap.size ≤ b.heap.size := h.bel.size
/-- The checker, what was seen, what is left. -/
structure UK (B p sb : Nat) (h : MH) (m : ModelD) (seen left : List Int) (lv : Value) (W : World) : Prop where
  le : B ≤ p
  md : MD B W h m
  kp : W.heap[p]? = some (.cells (kCells h m (.slice (some ⟨sb, 0, none⟩) m.exprs.length m.exprs.length) lv) 49 (0, 0))
  row : W.ownsRow B 3 1 lv left.length (leftV left)
  ne : lv.ownBlock ≠ some sb
  rs : W.ownsRow B 3 1 (.slice (some ⟨sb, 0, none⟩) m.exprs.length m.exprs.length) m.exprs.length (leftV seen)
def UJ (B p sb : Nat) (h : MH) (m : ModelD) (seen left : List Int) (W : World) : Prop := ∃ lv, UK B p sb h m seen left lv W
section
variable {B p sb : Nat} {h : MH} {m : ModelD} {seen left : List Int} {lv : Value} {W : World}
theorem UK.lt (k : UK B p sb h m seen left lv W) : p < W.heap.size := lt_of_block k.kp
theorem UK.leW (k : UK B p sb h m seen left lv W) : B ≤ W.heap.size := by have := k.lt; have := k.le; omega
theorem UK.ck (k : UK B p sb h m seen left lv W) : Ck B W p h m := by
  have hp := k.kp
  exact ⟨(cell_of_row _ _ _ _ _ _ hp).trans rfl, (cell_of_row _ _ _ _ _ _ hp).trans rfl, (cell_of_row _ _ _ _ _ _ hp).trans rfl, (cell_of_row _ _ _ _ _ _ hp).trans rfl, (cell_of_row _ _ _ _ _ _ hp).trans rfl, (cell_of_row _ _ _ _ _ _ hp).trans rfl, (cell_of_row _ _ _ _ _ _ hp).trans rfl, k.le, k.lt, k.md⟩
theorem UK.c7 (k : UK B p sb h m seen left lv W) : W.cell? ⟨p, 7, none⟩ = some (.slice (some ⟨sb, 0, none⟩) m.exprs.length m.exprs.length) := (cell_of_row _ _ _ _ _ _ k.kp).trans rfl
theorem UK.c8 (k : UK B p sb h m seen left lv W) : W.cell? ⟨p, 8, none⟩ = some lv := (cell_of_row _ _ _ _ _ _ k.kp).trans rfl
theorem UK.f8 (k : UK B p sb h m seen left lv W) : W.frozen? ⟨p, 8, none⟩ = false := frozen_of_row _ _ _ _ _ k.kp
theorem UK.len (k : UK B p sb h m seen left lv W) : seen.length = m.exprs.length := by have := k.rs.1; simpa [leftV] using this
theorem UK.sbp (k : UK B p sb h m seen left lv W) : sb ≠ p := fun e => owns_neObj k.rs k.kp (by decide) (by rw [← e]; rfl)
theorem UK.lvp (k : UK B p sb h m seen left lv W) : lv.ownBlock ≠ some p := owns_neObj k.row k.kp (by decide)
theorem UK.below (k : UK B p sb h m seen left lv W) {W' : World} (hb : Below W.heap.size W W') : UK B p sb h m seen left lv W' :=
  ⟨k.le, k.md.below (hb.mono k.leW), (hb.block _ k.lt).trans k.kp, owns_below k.row hb, k.ne, owns_below k.rs hb⟩
/-- Another list is left. -/
theorem UK.put (k : UK B p sb h m seen left lv W) {W2 : World} {v lv2 : Value} {left2 : List Int} (hg : W.grownBy W2 v.ownBlock) (hv : v.ownBlock = none ∨ v.ownBlock = lv.ownBlock) (own2 : W2.ownsRow B 3 1 lv2 left2.length (leftV left2)) (hne2 : lv2.ownBlock ≠ some sb) :
    UK B p sb h m seen left2 lv2 (W2.setCell ⟨p, 8, none⟩ lv2) ∧ Gn B W (W2.setCell ⟨p, 8, none⟩ lv2) := by
  have vb : ∀ b, b < B → some b ≠ v.ownBlock := by
    intro b hb e
    rcases hv with h0 | h0
    · rw [h0] at e; cases e
    · rw [h0] at e
      have := (k.row.lt b e.symm).1
      omega
  have vp : some p ≠ v.ownBlock := by
    rcases hv with h0 | h0
    · rw [h0]; simp
    · rw [h0]; exact k.lvp.symm
  have vs : some sb ≠ v.ownBlock := by
    rcases hv with h0 | h0
    · rw [h0]; simp
    · rw [h0]; exact k.ne.symm
  have hp2 : W2.heap[p]? = some (.cells (kCells h m (.slice (some ⟨sb, 0, none⟩) m.exprs.length m.exprs.length) lv) 49 (0, 0)) := (hg.block p k.lt vp).trans k.kp
  have hb2 : Below B W W2 := ⟨hg.os, hg.tape, hg.output, hg.size, fun b hb => hg.block b (by have := k.leW; omega) (vb b hb)⟩
  have hb3 : Below B W (W2.setCell ⟨p, 8, none⟩ lv2) := hb2.setCell k.le _
  have h2p : lv2.ownBlock ≠ some p := owns_neObj own2 hp2 (by decide)
  refine ⟨⟨k.le, k.md.below hb3, ?_, owns_set own2 _ _ h2p, hne2, owns_set (k.rs.kept hg (.inr vs)) _ _ (by intro e; injection e with e; exact k.sbp e)⟩, hb3, fun b cs T fr h1 h2 h3 => ?_⟩
  · rw [heap_setCell_same _ _ _ _ _ _ hp2]; rfl
  · have hbp : b ≠ p := by
      rintro rfl
      rw [k.kp] at h3
      injection h3 with h3
      injection h3 with _ h3
      exact h2 h3.symm
    have hbv : some b ≠ v.ownBlock := by
      intro e
      rcases hv with h0 | h0
      · rw [h0] at e; cases e
      · rw [h0] at e
        exact owns_neObj k.row h3 (fun e => h1 e.symm) e.symm
    rw [heap_setCell_other _ _ _ _ (by exact hbp)]
    exact (hg.block b (lt_of_block h3) hbv).trans h3
/-- One more was seen. -/
theorem UK.see (k : UK B p sb h m seen left lv W) (q : Nat) (x : Int) : UK B p sb h m (seen.set q x) left lv (W.setCell ⟨sb, q, none⟩ (.int .i64 x)) ∧ Gn B W (W.setCell ⟨sb, q, none⟩ (.int .i64 x)) := by
  have hb3 : Below B W (W.setCell ⟨sb, q, none⟩ (.int .i64 x)) := (Below.refl _ _).setCell (k.rs.lt sb rfl).1 _
  refine ⟨⟨k.le, k.md.below hb3, ?_, owns_set k.row _ _ k.ne, k.ne, ?_⟩, hb3, fun b cs T fr h1 h2 h3 => ?_⟩
  · rw [heap_setCell_other _ _ _ _ (by exact fun e => k.sbp e.symm)]; exact k.kp
  · have := (k.rs.stored q (.int .i64 x)).1
    unfold leftV at this ⊢
    rw [List.map_set]
    exact this
  · rw [heap_setCell_other _ _ _ _ (by exact fun e => owns_neObj k.rs h3 (fun e => h1 e.symm) (by rw [e]; rfl))]
    exact h3
theorem UK.seenAt (k : UK B p sb h m seen left lv W) {q : Nat} {v : Int} (hv : seen[q]? = some v) : W.cell? ⟨sb, q, none⟩ = some (.int .i64 v) := by
  have hl := k.len
  have hq := (List.getElem?_eq_some_iff.1 hv).1
  refine (World.ownsRow.cellAt k.rs q (by omega)).trans ?_
  unfold leftV
  rw [List.getElem?_map, hv]
  rfl
theorem UK.seenF (k : UK B p sb h m seen left lv W) (q : Nat) : W.frozen? ⟨sb, q, none⟩ = false := k.rs.frozenAt q
/-- The list's forms. -/
theorem UK.form (k : UK B p sb h m seen left lv W) : (lv = .slice none 0 0 ∧ left = []) ∨ ∃ g cap, lv = .slice (some ⟨g, 0, none⟩) left.length cap ∧ left.length ≤ cap := by
  rcases k.row.2 with ⟨h0, h1⟩ | ⟨g, cap, cur, h0, _, _, h1, _⟩
  · exact .inl ⟨h0, List.eq_nil_of_length_eq_zero h1⟩
  · exact .inr ⟨g, cap, h0, h1⟩
/-- The list cut to nothing. -/
theorem own_none {W : World} {B n cap g : Nat} {xs : List Value} (h : W.ownsRow B 3 1 (.slice (some ⟨g, 0, none⟩) n cap) n xs) : W.ownsRow B 3 1 (.slice (some ⟨g, 0, none⟩) 0 cap) 0 [] := by
  refine ⟨rfl, ?_⟩
  rcases h.2 with ⟨h0, _⟩ | ⟨g', cap', cur, hv, h1, h2, h3, h4, h5, h6⟩
  · cases h0
  · injection hv with e1 e2 e3
    injection e1 with e1
    injection e1 with e1
    subst e1 e3
    exact .inr ⟨g, cap, cur, rfl, h1, h2, Nat.zero_le _, h4, h5, by simp⟩
/-- The last one taken away. -/
theorem own_pop {W : World} {B cap g : Nat} {l : List Int} {q : Int} (h : W.ownsRow B 3 1 (.slice (some ⟨g, 0, none⟩) (l ++ [q]).length cap) (l ++ [q]).length (leftV (l ++ [q]))) : W.ownsRow B 3 1 (.slice (some ⟨g, 0, none⟩) l.length cap) l.length (leftV l) := by
  refine ⟨by simp [leftV], ?_⟩
  rcases h.2 with ⟨h0, _⟩ | ⟨g', cap', cur, hv, h1, h2, h3, h4, h5, h6⟩
  · cases h0
  · injection hv with e1 e2 e3
    injection e1 with e1
    injection e1 with e1
    subst e1 e3
    refine .inr ⟨g, cap, cur, rfl, h1, h2, by simp at h3; omega, h4, h5, ?_⟩
    have h7 : (cur.toList.take ((l ++ [q]).length * 1)).take l.length = (leftV (l ++ [q])).take l.length := by rw [h6]
    rw [List.take_take, Nat.min_eq_left (by simp)] at h7
    rw [Nat.mul_one, h7]
    unfold leftV
    rw [← List.map_take]
    simp
end
end Go.Proofs.Ytflfjbmbholloaa
