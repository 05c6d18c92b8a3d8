/- The small model. -/
import Derived.Test.YtpbhplooikammaaCheck
namespace Go.Proofs.Ytpbhplooikammaa
open Go.ChangeShapes Go.WideShapes Go.ChangeAt Go.RowKit

/-- The two blocks of a small model. -/
def Two (w : World) (q r : Nat) : Prop :=
  w.heap[q]? = some (.cells #[.string ByteArray.empty, .int .i64 0, .slice none 0 0, .slice none 0 0, .slice (some ⟨r, 0, none⟩) 1 1, .int .i64 0, .int .i64 0, .int .i64 0, .int .i64 1, .int .i64 (-1)] 46 (0, 0)) ∧
  w.heap[r]? = some (.cells #[.slice none 0 0, .slice none 0 0, .bool false, .bool false, .bool false, .bool false, .bool false] 57 (0, 0))
/-- A small model, as a value. -/
def smallV (q : Nat) : Value := .agg #[.slice none 0 0, .slice none 0 0, .slice none 0 0, .slice none 0 0, .slice (some ⟨q, 0, none⟩) 1 1, .int .i64 (-1), .slice none 0 0]

theorem Two.sm {w : World} {q r : Nat} (h : Two w q r) : Sm w q r 1 := by
  obtain ⟨h1, h2⟩ := h
  constructor
  all_goals first | (rw [cell_of_row _ _ _ _ _ _ h1]; rfl) | (rw [cell_of_row _ _ _ _ _ _ h2]; rfl) | exact lt_of_block h1 | exact lt_of_block h2

theorem Two.set {w : World} {q r : Nat} (h : Two w q r) : Sm (w.setCell ⟨q, 8, none⟩ (.int .i64 0)) q r 0 := by
  obtain ⟨h1, h2⟩ := h
  have hne : r ≠ q := fun e => by subst e; rw [h1] at h2; simp at h2
  have hq : ∀ i, i ≠ 8 → (w.setCell ⟨q, 8, none⟩ (.int .i64 0)).cell? ⟨q, i, none⟩ = w.cell? ⟨q, i, none⟩ := fun i hi => by
    apply World.cell?_setCell_other
    intro e
    injection e with _ e2 _
    omega
  have hr : ∀ i, (w.setCell ⟨q, 8, none⟩ (.int .i64 0)).cell? ⟨r, i, none⟩ = w.cell? ⟨r, i, none⟩ := fun i => by
    apply World.cell?_setCell_other
    intro e
    injection e with e1 _ _
    exact hne e1.symm
  have h8 : (w.setCell ⟨q, 8, none⟩ (.int .i64 0)).cell? ⟨q, 8, none⟩ = some (.int .i64 0) := by
    apply World.cell?_setCell_same
    rw [cell_of_row _ _ _ _ _ _ h1]
    rfl
  have s1 := lt_of_block h1
  have s2 := lt_of_block h2
  constructor
  all_goals first
    | exact h8
    | (rw [hq _ (by decide), cell_of_row _ _ _ _ _ _ h1]; rfl)
    | (rw [hr, cell_of_row _ _ _ _ _ _ h2]; rfl)
    | (simpa using s1)
    | (simpa using s2)

set_option maxRecDepth 100000 in
theorem small_any (w : World) : Calls Try.prog 12 #[] w fun e w' => e = .returned (smallV (w.heap.size + 2)) ∧ Two w' (w.heap.size + 2) (w.heap.size + 1) ∧ Below w.heap.size w w' := by
  go_enter Try.func12, Try.ntmps12
  go_wp2
  refine bodyPost_ret (v := smallV (w.heap.size + 2)) (by simp [smallV, results, Try.results12, go_sem]) rfl ⟨rfl, ⟨?_, ?_⟩, ?_⟩
  · have h := heap_alloc_new ((w.alloc (.cells #[.slice none 0 0, .slice none 0 0, .slice none 0 0, .slice none 0 0, .slice (some ⟨w.heap.size + 1 + 1, 0, none⟩) 1 1, .int .i64 (-1), .slice none 0 0] 42)).alloc (.cells #[.slice none 0 0, .slice none 0 0, .bool false, .bool false, .bool false, .bool false, .bool false] 57)) (.cells #[.string ByteArray.empty, .int .i64 0, .slice none 0 0, .slice none 0 0, .slice (some ⟨w.heap.size + 1, 0, none⟩) 1 1, .int .i64 0, .int .i64 0, .int .i64 0, .int .i64 1, .int .i64 (-1)] 46)
    rw [World.size_alloc, World.size_alloc] at h
    exact h
  · rw [Below.heap_alloc _ _ _ (by simp)]
    have h := heap_alloc_new (w.alloc (.cells #[.slice none 0 0, .slice none 0 0, .slice none 0 0, .slice none 0 0, .slice (some ⟨w.heap.size + 1 + 1, 0, none⟩) 1 1, .int .i64 (-1), .slice none 0 0] 42)) (.cells #[.slice none 0 0, .slice none 0 0, .bool false, .bool false, .bool false, .bool false, .bool false] 57)
    rw [World.size_alloc] at h
    exact h
  · exact (((Below.refl _ _).alloc (Nat.le_refl _) _).alloc (by simp) _).alloc (by simp; omega) _
end Go.Proofs.Ytpbhplooikammaa
