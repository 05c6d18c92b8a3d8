/- Layer 19's example holds: the walk. -/
import Derived.Test.YtofdfaopabmfoaaM32
namespace Go.Proofs.Ytofdfaopabmfoaa
open Go.ChangeShapes Go.WideShapes Go.ChangeAt Go.RowKit
set_option linter.unusedVariables false
set_option linter.unusedSimpArgs false

set_option maxRecDepth 100000 in
set_option maxHeartbeats 8000000 in
theorem shownC (w : World) : Calls Try.prog 5 #[] w fun e w' => e = .returned (.bool true) ∧ Below w.heap.size w w' := by
  go_enter Try.func5, Try.ntmps5
  go_upto_region 4 with fail
  have HA : Hid (((w.alloc (.cells #[.int .i64 1, .int .i64 1, .int .i64 (-1), .int .i64 (-1), .int .i64 (-1), .int .i64 0, .int .i64 0, .int .i64 0, .int .i64 0, .slice none 0 0, .slice none 0 0, .slice none 0 0] 57)).alloc (.cells #[.int .i64 2, .int .i64 0, .int .i64 (-1), .int .i64 (-1), .int .i64 (-1), .int .i64 1, .int .i64 0, .int .i64 (-1), .int .i64 (-1), .slice none 0 0, .slice none 0 0, .slice none 0 0] 57)).alloc (.cells #[.int .i64 2, .int .i64 0, .int .i64 (-1), .int .i64 (-1), .int .i64 (-1), .int .i64 0, .int .i64 0, .int .i64 (-1), .int .i64 (-1), .slice none 0 0, .slice none 0 0, .slice none 0 0] 57) = allocs w [.cells #[.int .i64 1, .int .i64 1, .int .i64 (-1), .int .i64 (-1), .int .i64 (-1), .int .i64 0, .int .i64 0, .int .i64 0, .int .i64 0, .slice none 0 0, .slice none 0 0, .slice none 0 0] 57, .cells #[.int .i64 2, .int .i64 0, .int .i64 (-1), .int .i64 (-1), .int .i64 (-1), .int .i64 1, .int .i64 0, .int .i64 (-1), .int .i64 (-1), .slice none 0 0, .slice none 0 0, .slice none 0 0] 57, .cells #[.int .i64 2, .int .i64 0, .int .i64 (-1), .int .i64 (-1), .int .i64 (-1), .int .i64 0, .int .i64 0, .int .i64 (-1), .int .i64 (-1), .slice none 0 0, .slice none 0 0, .slice none 0 0] 57]) := Lib.hid rfl
  rw [HA.out]
  have H0 : Hid ((allocs w [.cells #[.int .i64 1, .int .i64 1, .int .i64 (-1), .int .i64 (-1), .int .i64 (-1), .int .i64 0, .int .i64 0, .int .i64 0, .int .i64 0, .slice none 0 0, .slice none 0 0, .slice none 0 0] 57, .cells #[.int .i64 2, .int .i64 0, .int .i64 (-1), .int .i64 (-1), .int .i64 (-1), .int .i64 1, .int .i64 0, .int .i64 (-1), .int .i64 (-1), .slice none 0 0, .slice none 0 0, .slice none 0 0] 57, .cells #[.int .i64 2, .int .i64 0, .int .i64 (-1), .int .i64 (-1), .int .i64 (-1), .int .i64 0, .int .i64 0, .int .i64 (-1), .int .i64 (-1), .slice none 0 0, .slice none 0 0, .slice none 0 0] 57]).heap[w.heap.size]? = some (.cells #[.int .i64 1, .int .i64 1, .int .i64 (-1), .int .i64 (-1), .int .i64 (-1), .int .i64 0, .int .i64 0, .int .i64 0, .int .i64 0, .slice none 0 0, .slice none 0 0, .slice none 0 0] 57 (0, 0))) := Lib.hid (allocs_at (k := 0) rfl)
  have H1 : Hid ((allocs w [.cells #[.int .i64 1, .int .i64 1, .int .i64 (-1), .int .i64 (-1), .int .i64 (-1), .int .i64 0, .int .i64 0, .int .i64 0, .int .i64 0, .slice none 0 0, .slice none 0 0, .slice none 0 0] 57, .cells #[.int .i64 2, .int .i64 0, .int .i64 (-1), .int .i64 (-1), .int .i64 (-1), .int .i64 1, .int .i64 0, .int .i64 (-1), .int .i64 (-1), .slice none 0 0, .slice none 0 0, .slice none 0 0] 57, .cells #[.int .i64 2, .int .i64 0, .int .i64 (-1), .int .i64 (-1), .int .i64 (-1), .int .i64 0, .int .i64 0, .int .i64 (-1), .int .i64 (-1), .slice none 0 0, .slice none 0 0, .slice none 0 0] 57]).heap[w.heap.size + 1]? = some (.cells #[.int .i64 2, .int .i64 0, .int .i64 (-1), .int .i64 (-1), .int .i64 (-1), .int .i64 1, .int .i64 0, .int .i64 (-1), .int .i64 (-1), .slice none 0 0, .slice none 0 0, .slice none 0 0] 57 (0, 0))) := Lib.hid (allocs_at (k := 1) rfl)
  have H2 : Hid ((allocs w [.cells #[.int .i64 1, .int .i64 1, .int .i64 (-1), .int .i64 (-1), .int .i64 (-1), .int .i64 0, .int .i64 0, .int .i64 0, .int .i64 0, .slice none 0 0, .slice none 0 0, .slice none 0 0] 57, .cells #[.int .i64 2, .int .i64 0, .int .i64 (-1), .int .i64 (-1), .int .i64 (-1), .int .i64 1, .int .i64 0, .int .i64 (-1), .int .i64 (-1), .slice none 0 0, .slice none 0 0, .slice none 0 0] 57, .cells #[.int .i64 2, .int .i64 0, .int .i64 (-1), .int .i64 (-1), .int .i64 (-1), .int .i64 0, .int .i64 0, .int .i64 (-1), .int .i64 (-1), .slice none 0 0, .slice none 0 0, .slice none 0 0] 57]).heap[w.heap.size + 1 + 1]? = some (.cells #[.int .i64 2, .int .i64 0, .int .i64 (-1), .int .i64 (-1), .int .i64 (-1), .int .i64 0, .int .i64 0, .int .i64 (-1), .int .i64 (-1), .slice none 0 0, .slice none 0 0, .slice none 0 0] 57 (0, 0))) := Lib.hid (allocs_at (k := 2) rfl)
  have HB0 : Hid (Below w.heap.size w (allocs w [.cells #[.int .i64 1, .int .i64 1, .int .i64 (-1), .int .i64 (-1), .int .i64 (-1), .int .i64 0, .int .i64 0, .int .i64 0, .int .i64 0, .slice none 0 0, .slice none 0 0, .slice none 0 0] 57, .cells #[.int .i64 2, .int .i64 0, .int .i64 (-1), .int .i64 (-1), .int .i64 (-1), .int .i64 1, .int .i64 0, .int .i64 (-1), .int .i64 (-1), .slice none 0 0, .slice none 0 0, .slice none 0 0] 57, .cells #[.int .i64 2, .int .i64 0, .int .i64 (-1), .int .i64 (-1), .int .i64 (-1), .int .i64 0, .int .i64 0, .int .i64 (-1), .int .i64 (-1), .slice none 0 0, .slice none 0 0, .slice none 0 0] 57])) := Lib.hid (allocs_below _ _ _ (Nat.le_refl _))
  generalize allocs w [.cells #[.int .i64 1, .int .i64 1, .int .i64 (-1), .int .i64 (-1), .int .i64 (-1), .int .i64 0, .int .i64 0, .int .i64 0, .int .i64 0, .slice none 0 0, .slice none 0 0, .slice none 0 0] 57, .cells #[.int .i64 2, .int .i64 0, .int .i64 (-1), .int .i64 (-1), .int .i64 (-1), .int .i64 1, .int .i64 0, .int .i64 (-1), .int .i64 (-1), .slice none 0 0, .slice none 0 0, .slice none 0 0] 57, .cells #[.int .i64 2, .int .i64 0, .int .i64 (-1), .int .i64 (-1), .int .i64 (-1), .int .i64 0, .int .i64 0, .int .i64 (-1), .int .i64 (-1), .slice none 0 0, .slice none 0 0, .slice none 0 0] 57] = W3 at H0 H1 H2 HB0 ⊢
  generalize w.heap.size + 1 + 1 = a2 at H0 H1 H2 HB0 ⊢
  generalize w.heap.size + 1 = a1 at H0 H1 H2 HB0 ⊢
  clear HA
  have HI12 : Hid ((Try.prog.info? 57).map (·.size) = some 12) := Lib.hid (by kernel_rfl)
  have HBX : Hid (∀ (b : Nat) (cs : Array Value) (T : TypeId) (fr : Nat × Nat), W3.heap[b]? = some (.cells cs T fr) → ∀ o1 o2, ((W3.alloc o1).alloc o2).heap[b]? = some (.cells cs T fr)) := Lib.hid fun b cs T fr h o1 o2 =>
    (Below.heap_alloc _ _ _ (by have := lt_of_block h; simp; omega)).trans ((Below.heap_alloc _ _ _ (lt_of_block h)).trans h)
  have hb0 := HBX.out _ _ _ _ H0.out (.cells #[.int .i64 8, .bool false] 59) (.cells #[.int .i64 0] 2)
  have hb1 := HBX.out _ _ _ _ H1.out (.cells #[.int .i64 8, .bool false] 59) (.cells #[.int .i64 0] 2)
  have hb2 := HBX.out _ _ _ _ H2.out (.cells #[.int .i64 8, .bool false] 59) (.cells #[.int .i64 0] 2)
  have x0_0 : ((W3.alloc (.cells #[.int .i64 8, .bool false] 59)).alloc (.cells #[.int .i64 0] 2)).cell? ⟨w.heap.size, 0, none⟩ = _ := (cell_of_row _ _ 0 _ _ _ hb0).trans rfl
  have x0_1 : ((W3.alloc (.cells #[.int .i64 8, .bool false] 59)).alloc (.cells #[.int .i64 0] 2)).cell? ⟨w.heap.size, 1, none⟩ = _ := (cell_of_row _ _ 1 _ _ _ hb0).trans rfl
  have x0_2 : ((W3.alloc (.cells #[.int .i64 8, .bool false] 59)).alloc (.cells #[.int .i64 0] 2)).cell? ⟨w.heap.size, 2, none⟩ = _ := (cell_of_row _ _ 2 _ _ _ hb0).trans rfl
  have x0_3 : ((W3.alloc (.cells #[.int .i64 8, .bool false] 59)).alloc (.cells #[.int .i64 0] 2)).cell? ⟨w.heap.size, 3, none⟩ = _ := (cell_of_row _ _ 3 _ _ _ hb0).trans rfl
  have x0_4 : ((W3.alloc (.cells #[.int .i64 8, .bool false] 59)).alloc (.cells #[.int .i64 0] 2)).cell? ⟨w.heap.size, 4, none⟩ = _ := (cell_of_row _ _ 4 _ _ _ hb0).trans rfl
  have x0_5 : ((W3.alloc (.cells #[.int .i64 8, .bool false] 59)).alloc (.cells #[.int .i64 0] 2)).cell? ⟨w.heap.size, 5, none⟩ = _ := (cell_of_row _ _ 5 _ _ _ hb0).trans rfl
  have x0_6 : ((W3.alloc (.cells #[.int .i64 8, .bool false] 59)).alloc (.cells #[.int .i64 0] 2)).cell? ⟨w.heap.size, 6, none⟩ = _ := (cell_of_row _ _ 6 _ _ _ hb0).trans rfl
  have x0_7 : ((W3.alloc (.cells #[.int .i64 8, .bool false] 59)).alloc (.cells #[.int .i64 0] 2)).cell? ⟨w.heap.size, 7, none⟩ = _ := (cell_of_row _ _ 7 _ _ _ hb0).trans rfl
  have x0_8 : ((W3.alloc (.cells #[.int .i64 8, .bool false] 59)).alloc (.cells #[.int .i64 0] 2)).cell? ⟨w.heap.size, 8, none⟩ = _ := (cell_of_row _ _ 8 _ _ _ hb0).trans rfl
  have x0_9 : ((W3.alloc (.cells #[.int .i64 8, .bool false] 59)).alloc (.cells #[.int .i64 0] 2)).cell? ⟨w.heap.size, 9, none⟩ = _ := (cell_of_row _ _ 9 _ _ _ hb0).trans rfl
  have x0_10 : ((W3.alloc (.cells #[.int .i64 8, .bool false] 59)).alloc (.cells #[.int .i64 0] 2)).cell? ⟨w.heap.size, 10, none⟩ = _ := (cell_of_row _ _ 10 _ _ _ hb0).trans rfl
  have x0_11 : ((W3.alloc (.cells #[.int .i64 8, .bool false] 59)).alloc (.cells #[.int .i64 0] 2)).cell? ⟨w.heap.size, 11, none⟩ = _ := (cell_of_row _ _ 11 _ _ _ hb0).trans rfl
  have x1_0 : ((W3.alloc (.cells #[.int .i64 8, .bool false] 59)).alloc (.cells #[.int .i64 0] 2)).cell? ⟨a1, 0, none⟩ = _ := (cell_of_row _ _ 0 _ _ _ hb1).trans rfl
  have x1_1 : ((W3.alloc (.cells #[.int .i64 8, .bool false] 59)).alloc (.cells #[.int .i64 0] 2)).cell? ⟨a1, 1, none⟩ = _ := (cell_of_row _ _ 1 _ _ _ hb1).trans rfl
  have x1_2 : ((W3.alloc (.cells #[.int .i64 8, .bool false] 59)).alloc (.cells #[.int .i64 0] 2)).cell? ⟨a1, 2, none⟩ = _ := (cell_of_row _ _ 2 _ _ _ hb1).trans rfl
  have x1_3 : ((W3.alloc (.cells #[.int .i64 8, .bool false] 59)).alloc (.cells #[.int .i64 0] 2)).cell? ⟨a1, 3, none⟩ = _ := (cell_of_row _ _ 3 _ _ _ hb1).trans rfl
  have x1_4 : ((W3.alloc (.cells #[.int .i64 8, .bool false] 59)).alloc (.cells #[.int .i64 0] 2)).cell? ⟨a1, 4, none⟩ = _ := (cell_of_row _ _ 4 _ _ _ hb1).trans rfl
  have x1_5 : ((W3.alloc (.cells #[.int .i64 8, .bool false] 59)).alloc (.cells #[.int .i64 0] 2)).cell? ⟨a1, 5, none⟩ = _ := (cell_of_row _ _ 5 _ _ _ hb1).trans rfl
  have x1_6 : ((W3.alloc (.cells #[.int .i64 8, .bool false] 59)).alloc (.cells #[.int .i64 0] 2)).cell? ⟨a1, 6, none⟩ = _ := (cell_of_row _ _ 6 _ _ _ hb1).trans rfl
  have x1_7 : ((W3.alloc (.cells #[.int .i64 8, .bool false] 59)).alloc (.cells #[.int .i64 0] 2)).cell? ⟨a1, 7, none⟩ = _ := (cell_of_row _ _ 7 _ _ _ hb1).trans rfl
  have x1_8 : ((W3.alloc (.cells #[.int .i64 8, .bool false] 59)).alloc (.cells #[.int .i64 0] 2)).cell? ⟨a1, 8, none⟩ = _ := (cell_of_row _ _ 8 _ _ _ hb1).trans rfl
  have x1_9 : ((W3.alloc (.cells #[.int .i64 8, .bool false] 59)).alloc (.cells #[.int .i64 0] 2)).cell? ⟨a1, 9, none⟩ = _ := (cell_of_row _ _ 9 _ _ _ hb1).trans rfl
  have x1_10 : ((W3.alloc (.cells #[.int .i64 8, .bool false] 59)).alloc (.cells #[.int .i64 0] 2)).cell? ⟨a1, 10, none⟩ = _ := (cell_of_row _ _ 10 _ _ _ hb1).trans rfl
  have x1_11 : ((W3.alloc (.cells #[.int .i64 8, .bool false] 59)).alloc (.cells #[.int .i64 0] 2)).cell? ⟨a1, 11, none⟩ = _ := (cell_of_row _ _ 11 _ _ _ hb1).trans rfl
  have x2_0 : ((W3.alloc (.cells #[.int .i64 8, .bool false] 59)).alloc (.cells #[.int .i64 0] 2)).cell? ⟨a2, 0, none⟩ = _ := (cell_of_row _ _ 0 _ _ _ hb2).trans rfl
  have x2_1 : ((W3.alloc (.cells #[.int .i64 8, .bool false] 59)).alloc (.cells #[.int .i64 0] 2)).cell? ⟨a2, 1, none⟩ = _ := (cell_of_row _ _ 1 _ _ _ hb2).trans rfl
  have x2_2 : ((W3.alloc (.cells #[.int .i64 8, .bool false] 59)).alloc (.cells #[.int .i64 0] 2)).cell? ⟨a2, 2, none⟩ = _ := (cell_of_row _ _ 2 _ _ _ hb2).trans rfl
  have x2_3 : ((W3.alloc (.cells #[.int .i64 8, .bool false] 59)).alloc (.cells #[.int .i64 0] 2)).cell? ⟨a2, 3, none⟩ = _ := (cell_of_row _ _ 3 _ _ _ hb2).trans rfl
  have x2_4 : ((W3.alloc (.cells #[.int .i64 8, .bool false] 59)).alloc (.cells #[.int .i64 0] 2)).cell? ⟨a2, 4, none⟩ = _ := (cell_of_row _ _ 4 _ _ _ hb2).trans rfl
  have x2_5 : ((W3.alloc (.cells #[.int .i64 8, .bool false] 59)).alloc (.cells #[.int .i64 0] 2)).cell? ⟨a2, 5, none⟩ = _ := (cell_of_row _ _ 5 _ _ _ hb2).trans rfl
  have x2_6 : ((W3.alloc (.cells #[.int .i64 8, .bool false] 59)).alloc (.cells #[.int .i64 0] 2)).cell? ⟨a2, 6, none⟩ = _ := (cell_of_row _ _ 6 _ _ _ hb2).trans rfl
  have x2_7 : ((W3.alloc (.cells #[.int .i64 8, .bool false] 59)).alloc (.cells #[.int .i64 0] 2)).cell? ⟨a2, 7, none⟩ = _ := (cell_of_row _ _ 7 _ _ _ hb2).trans rfl
  have x2_8 : ((W3.alloc (.cells #[.int .i64 8, .bool false] 59)).alloc (.cells #[.int .i64 0] 2)).cell? ⟨a2, 8, none⟩ = _ := (cell_of_row _ _ 8 _ _ _ hb2).trans rfl
  have x2_9 : ((W3.alloc (.cells #[.int .i64 8, .bool false] 59)).alloc (.cells #[.int .i64 0] 2)).cell? ⟨a2, 9, none⟩ = _ := (cell_of_row _ _ 9 _ _ _ hb2).trans rfl
  have x2_10 : ((W3.alloc (.cells #[.int .i64 8, .bool false] 59)).alloc (.cells #[.int .i64 0] 2)).cell? ⟨a2, 10, none⟩ = _ := (cell_of_row _ _ 10 _ _ _ hb2).trans rfl
  have x2_11 : ((W3.alloc (.cells #[.int .i64 8, .bool false] 59)).alloc (.cells #[.int .i64 0] 2)).cell? ⟨a2, 11, none⟩ = _ := (cell_of_row _ _ 11 _ _ _ hb2).trans rfl
  clear hb0 hb1 hb2
  go_upto_region 5 with fail
  have HPM : Hid (Pm (allocs W3 [.cells oG 59, .cells oI 2, .cells oX.toArray 57, .cells oG 59, .cells oI 2, .cells oT1 63, .cells oT2 63, .cells (oLs (W3.heap.size + 1 + 1 + 1 + 1 + 1) (W3.heap.size + 1 + 1 + 1 + 1 + 1 + 1)) 67, .cells (oP (W3.heap.size + 1 + 1 + 1) (W3.heap.size + 1 + 1 + 1 + 1) (W3.heap.size + 1 + 1 + 1 + 1 + 1 + 1 + 1)) 40, .cells (oM (W3.heap.size) (W3.heap.size + 1) (W3.heap.size + 1 + 1 + 1 + 1 + 1 + 1 + 1 + 1) (.slice (some ⟨W3.heap.size + 1 + 1, 0, none⟩) 3 3)) 29]) (W3.heap.size) (W3.heap.size + 1) (W3.heap.size + 1 + 1 + 1) (W3.heap.size + 1 + 1 + 1 + 1) (W3.heap.size + 1 + 1 + 1 + 1 + 1) (W3.heap.size + 1 + 1 + 1 + 1 + 1 + 1) (W3.heap.size + 1 + 1 + 1 + 1 + 1 + 1 + 1) (W3.heap.size + 1 + 1 + 1 + 1 + 1 + 1 + 1 + 1)) := Lib.hid ⟨allocs_at (k := 0) rfl, allocs_at (k := 1) rfl, allocs_at (k := 3) rfl, allocs_at (k := 4) rfl, allocs_at (k := 5) rfl, allocs_at (k := 6) rfl, allocs_at (k := 7) rfl, allocs_at (k := 8) rfl⟩
  have HXB : Hid ((allocs W3 [.cells oG 59, .cells oI 2, .cells oX.toArray 57, .cells oG 59, .cells oI 2, .cells oT1 63, .cells oT2 63, .cells (oLs (W3.heap.size + 1 + 1 + 1 + 1 + 1) (W3.heap.size + 1 + 1 + 1 + 1 + 1 + 1)) 67, .cells (oP (W3.heap.size + 1 + 1 + 1) (W3.heap.size + 1 + 1 + 1 + 1) (W3.heap.size + 1 + 1 + 1 + 1 + 1 + 1 + 1)) 40, .cells (oM (W3.heap.size) (W3.heap.size + 1) (W3.heap.size + 1 + 1 + 1 + 1 + 1 + 1 + 1 + 1) (.slice (some ⟨W3.heap.size + 1 + 1, 0, none⟩) 3 3)) 29]).heap[W3.heap.size + 1 + 1]? = some (.cells oX.toArray 57 (0, 0))) := Lib.hid (allocs_at (k := 2) rfl)
  have HMB : Hid ((allocs W3 [.cells oG 59, .cells oI 2, .cells oX.toArray 57, .cells oG 59, .cells oI 2, .cells oT1 63, .cells oT2 63, .cells (oLs (W3.heap.size + 1 + 1 + 1 + 1 + 1) (W3.heap.size + 1 + 1 + 1 + 1 + 1 + 1)) 67, .cells (oP (W3.heap.size + 1 + 1 + 1) (W3.heap.size + 1 + 1 + 1 + 1) (W3.heap.size + 1 + 1 + 1 + 1 + 1 + 1 + 1)) 40, .cells (oM (W3.heap.size) (W3.heap.size + 1) (W3.heap.size + 1 + 1 + 1 + 1 + 1 + 1 + 1 + 1) (.slice (some ⟨W3.heap.size + 1 + 1, 0, none⟩) 3 3)) 29]).heap[W3.heap.size + 1 + 1 + 1 + 1 + 1 + 1 + 1 + 1 + 1]? = some (.cells (oM (W3.heap.size) (W3.heap.size + 1) (W3.heap.size + 1 + 1 + 1 + 1 + 1 + 1 + 1 + 1) (.slice (some ⟨W3.heap.size + 1 + 1, 0, none⟩) 3 3)) 29 (0, 0))) := Lib.hid (allocs_at (k := 9) rfl)
  have HBA : Hid (Below w.heap.size w (allocs W3 [.cells oG 59, .cells oI 2, .cells oX.toArray 57, .cells oG 59, .cells oI 2, .cells oT1 63, .cells oT2 63, .cells (oLs (W3.heap.size + 1 + 1 + 1 + 1 + 1) (W3.heap.size + 1 + 1 + 1 + 1 + 1 + 1)) 67, .cells (oP (W3.heap.size + 1 + 1 + 1) (W3.heap.size + 1 + 1 + 1 + 1) (W3.heap.size + 1 + 1 + 1 + 1 + 1 + 1 + 1)) 40, .cells (oM (W3.heap.size) (W3.heap.size + 1) (W3.heap.size + 1 + 1 + 1 + 1 + 1 + 1 + 1 + 1) (.slice (some ⟨W3.heap.size + 1 + 1, 0, none⟩) 3 3)) 29])) := Lib.hid (HB0.out.trans ((allocs_below _ _ _ (Nat.le_refl _)).mono HB0.out.size))
  have HGE : Hid (w.heap.size ≤ W3.heap.size + 1 + 1 ∧ w.heap.size ≤ W3.heap.size + 1 + 1 + 1 + 1 + 1 + 1 + 1 + 1 + 1) := Lib.hid (by have := HB0.out.size; omega)
  change Code.wp _ _ _ _ (allocs W3 [.cells oG 59, .cells oI 2, .cells oX.toArray 57, .cells oG 59, .cells oI 2, .cells oT1 63, .cells oT2 63, .cells (oLs (W3.heap.size + 1 + 1 + 1 + 1 + 1) (W3.heap.size + 1 + 1 + 1 + 1 + 1 + 1)) 67, .cells (oP (W3.heap.size + 1 + 1 + 1) (W3.heap.size + 1 + 1 + 1 + 1) (W3.heap.size + 1 + 1 + 1 + 1 + 1 + 1 + 1)) 40, .cells (oM (W3.heap.size) (W3.heap.size + 1) (W3.heap.size + 1 + 1 + 1 + 1 + 1 + 1 + 1 + 1) (.slice (some ⟨W3.heap.size + 1 + 1, 0, none⟩) 3 3)) 29])
  generalize allocs W3 [.cells oG 59, .cells oI 2, .cells oX.toArray 57, .cells oG 59, .cells oI 2, .cells oT1 63, .cells oT2 63, .cells (oLs (W3.heap.size + 1 + 1 + 1 + 1 + 1) (W3.heap.size + 1 + 1 + 1 + 1 + 1 + 1)) 67, .cells (oP (W3.heap.size + 1 + 1 + 1) (W3.heap.size + 1 + 1 + 1 + 1) (W3.heap.size + 1 + 1 + 1 + 1 + 1 + 1 + 1)) 40, .cells (oM (W3.heap.size) (W3.heap.size + 1) (W3.heap.size + 1 + 1 + 1 + 1 + 1 + 1 + 1 + 1) (.slice (some ⟨W3.heap.size + 1 + 1, 0, none⟩) 3 3)) 29] = WA at HPM HXB HMB HBA ⊢
  clear x0_0 x0_1 x0_2 x0_3 x0_4 x0_5 x0_6 x0_7 x0_8 x0_9 x0_10 x0_11 x1_0 x1_1 x1_2 x1_3 x1_4 x1_5 x1_6 x1_7 x1_8 x1_9 x1_10 x1_11 x2_0 x2_1 x2_2 x2_3 x2_4 x2_5 x2_6 x2_7 x2_8 x2_9 x2_10 x2_11 H0 H1 H2
  generalize W3.heap.size + 1 + 1 + 1 + 1 + 1 + 1 + 1 + 1 + 1 = p9 at HPM HXB HMB HGE ⊢
  generalize W3.heap.size + 1 + 1 + 1 + 1 + 1 + 1 + 1 + 1 = p8 at HPM HXB HMB HGE ⊢
  generalize W3.heap.size + 1 + 1 + 1 + 1 + 1 + 1 + 1 = p7 at HPM HXB HMB HGE ⊢
  generalize W3.heap.size + 1 + 1 + 1 + 1 + 1 + 1 = p6 at HPM HXB HMB HGE ⊢
  generalize W3.heap.size + 1 + 1 + 1 + 1 + 1 = p5 at HPM HXB HMB HGE ⊢
  generalize W3.heap.size + 1 + 1 + 1 + 1 = p4 at HPM HXB HMB HGE ⊢
  generalize W3.heap.size + 1 + 1 + 1 = p3 at HPM HXB HMB HGE ⊢
  generalize W3.heap.size + 1 + 1 = p2 at HPM HXB HMB HGE ⊢
  generalize W3.heap.size + 1 = p1 at HPM HXB HMB HGE ⊢
  generalize W3.heap.size = p0 at HPM HXB HMB ⊢
  have HMI : Hid ((Try.prog.info? 29).map (·.size) = some 7) := Lib.hid (by kernel_rfl)
  have HADM := Lib.hid (fun (W : World) (xg xc : Nat) (k : Pm W p0 p1 p3 p4 p5 p6 p7 p8) hl hx => pm_admits W xg xc k hl hx)
  obtain ⟨MS, hMS⟩ : ∃ c, c = oM p0 p1 p8 (.slice (some ⟨p2, 0, none⟩) 3 3) := ⟨_, rfl⟩
  have HMS := Lib.hid hMS
  have HMB1 : Hid (WA.heap[p9]? = some (.cells MS 29 (0, 0))) := Lib.hid (by rw [hMS]; exact HMB.out)
  have HMZ : Hid ((Try.prog.info? 29).map (·.size) = some MS.size) := Lib.hid (by rw [hMS]; exact HMI.out)
  have HSF := Lib.hid (pm_safes WA HPM.out HXB.out)
  rw [← hMS] at HSF
  clear hMS HMB
  go_wp2_with (refine wpList_load_row rfl _ _ rfl _ rfl _ MS _ _ HMB1.out Try.underlying29 rfl HMZ.out ?_)
  refine HSF.out.mono ?_
  rintro e W5 hsp
  have HSP := Lib.hid hsp
  clear hsp HSF
  obtain ⟨gR, cR, hgR, hRe0, hRR⟩ := HSP.out.yes pm_adm
  have hRe : e = .returned (.tuple #[.slice (some ⟨gR, 0, none⟩) 1 cR, .int .i64 0]) := hRe0
  subst hRe
  rw [pm_safe] at hRR
  obtain ⟨gq, oq, hq1, -, gB, cB, hgB, hBc, hBr⟩ := hRR.cell (i := 0) (by decide)
  injection hq1 with hq1
  injection hq1 with hq1 hq2
  subst hq1 hq2
  have hBc2 : W5.cell? ⟨gR, 0, none⟩ = some (.slice (some ⟨gB, 0, none⟩) 3 cB) := hBc
  obtain ⟨g0, o0, h01, -, hb0⟩ := hBr.cell (i := 0) (by decide)
  injection h01 with h01
  injection h01 with h01 h02
  subst h01 h02
  obtain ⟨g1, o1, h11, -, hb1⟩ := hBr.cell (i := 1) (by decide)
  injection h11 with h11
  injection h11 with h11 h12
  subst h11 h12
  obtain ⟨g2, o2, h21, -, hb2⟩ := hBr.cell (i := 2) (by decide)
  injection h21 with h21
  injection h21 with h21 h22
  subst h21 h22
  have d0 : W5.cell? ⟨gB, 0, none⟩ = some (.bool true) := hb0
  have d1 : W5.cell? ⟨gB, 1, none⟩ = some (.bool false) := hb1
  have d2 : W5.cell? ⟨gB, 2, none⟩ = some (.bool false) := hb2
  have HD := Lib.hid (And.intro hBc2 (And.intro d0 (And.intro d1 d2)))
  have HGG := Lib.hid (And.intro hgR hgB)
  have HB5 := Lib.hid HSP.out.bel
  have HX5 : Hid (W5.heap[p2]? = some (.cells oX.toArray 57 (0, 0))) := Lib.hid ((HB5.out.block _ (lt_of_block HXB.out)).trans HXB.out)
  have HM5 : Hid (W5.heap[p9]? = some (.cells MS 29 (0, 0))) := Lib.hid ((HB5.out.block _ (lt_of_block HMB1.out)).trans HMB1.out)
  have HP5 := Lib.hid (HPM.out.below HB5.out)
  have HLT : Hid (p2 < WA.heap.size ∧ p9 < WA.heap.size) := Lib.hid ⟨lt_of_block HXB.out, lt_of_block HMB1.out⟩
  have HBW : Hid (Below w.heap.size w W5) := Lib.hid (HBA.out.trans (HB5.out.mono HBA.out.size))
  have c6 : W5.cell? ⟨p9, 6, none⟩ = some (.slice (some ⟨p2, 0, none⟩) 3 3) := (cell_of_row _ _ _ _ _ _ HM5.out).trans (by rw [HMS.out]; rfl)
  have HOX : Hid (∀ o, (W5.alloc o).ownsRow w.heap.size 57 12 (.slice (some ⟨p2, 0, none⟩) 3 3) 3 oX) := Lib.hid fun o => (show W5.ownsRow w.heap.size 57 12 (.slice (some ⟨p2, 0, none⟩) 3 3) 3 oX from ⟨rfl, .inr ⟨p2, 3, oX.toArray, rfl, HGE.out.1, HX5.out, by decide, by decide, rfl, rfl⟩⟩).alloc o
  clear hRe0 hRR hBc hBc2 hBr hb0 hb1 hb2 d0 d1 d2 hgR hgB HSP HPM HXB HMB1 HB5 HBA
  have e0 := HD.out.1
  obtain ⟨ie, hie, hz0, hz1, hz2⟩ := held.info_parts info_expr
  have HIE := Lib.hid (And.intro hie (And.intro hz0 (And.intro hz1 hz2)))
  clear hie hz0 hz1 hz2
  go_upto_region 8 with fail
  clear e0
  have HONE : Hid (∀ j u', oL[j]? = some u' → (W5.alloc (.cells #[.int .i64 32, .int .i64 0, .int .i64 (-1), .int .i64 (-1), .int .i64 (-1), .int .i64 0, .int .i64 0, .int .i64 0, .int .i64 0, .slice none 0 0, .slice none 0 0, .slice none 0 0] 57)).cell? ((⟨W5.heap.size, 0, none⟩ : Addr).add j) = some u') := Lib.hid fun j u' hj => by
    rw [held.add_off]
    refine (cell_of_row _ _ _ _ _ _ (heap_alloc_new W5 (.cells #[.int .i64 32, .int .i64 0, .int .i64 (-1), .int .i64 (-1), .int .i64 (-1), .int .i64 0, .int .i64 0, .int .i64 0, .int .i64 0, .slice none 0 0, .slice none 0 0, .slice none 0 0] 57))).trans ?_
    rw [← hj, Nat.zero_add]
    exact List.getElem?_toArray
  have HOC : Hid (∀ u ∈ oL, u.oneCell' = true) := Lib.hid (by decide)
  have HSZ : Hid (w.heap.size ≤ W5.heap.size) := Lib.hid HBW.out.size
  go_wp2_with (at_builtin; refine wpList_append_own _ rfl _ _ 27 rfl w.heap.size 57 ie (.agg #[.int .i64 0, .int .i64 0, .int .i64 0, .int .i64 0, .int .i64 0, .int .i64 0, .int .i64 0, .int .i64 0, .int .i64 0, .slice none 0 0, .slice none 0 0, .slice none 0 0]) 12 144 Try.underlying27 HIE.out.1 HIE.out.2.1 HIE.out.2.2.1 HIE.out.2.2.2 rfl (by decide) (.slice (some ⟨p2, 0, none⟩) 3 3) 3 oX rfl (HOX.out _) ⟨W5.heap.size, 0, none⟩ 1 1 oL rfl rfl HONE.out HOC.out (by decide) (by decide) (by simp; have := HSZ.out; omega) ?_)
  intro v1 w1 hown hgrow _
  obtain ⟨gX, cX, hv1⟩ : ∃ g c, v1 = .slice (some ⟨g, 0, none⟩) 4 c := by
    rcases hown.2 with ⟨-, h0⟩ | ⟨g, cap, cur, rfl, -⟩
    · exact absurd h0 (by decide)
    · exact ⟨g, cap, rfl⟩
  subst hv1
  have HOW : Hid (w1.ownsRow w.heap.size 57 12 (.slice (some ⟨gX, 0, none⟩) 4 cX) 4 (oX ++ oL)) := Lib.hid hown
  have hA := ball (w := W5) (.cells #[.int .i64 32, .int .i64 0, .int .i64 (-1), .int .i64 (-1), .int .i64 (-1), .int .i64 0, .int .i64 0, .int .i64 0, .int .i64 0, .slice none 0 0, .slice none 0 0, .slice none 0 0] 57)
  have HPA := HP5.out.below hA
  have HXA := (hA.block _ (lt_of_block HX5.out)).trans HX5.out
  have HMA := (hA.block _ (lt_of_block HM5.out)).trans HM5.out
  have HWA := HBW.out.trans (hA.mono HBW.out.size)
  have hd0 := (hA.cell (p := ⟨gR, 0, none⟩) (World.block_lt_of_cell? W5 _ HD.out.1)).trans HD.out.1
  have hd1 := (hA.cell (p := ⟨gB, 0, none⟩) (World.block_lt_of_cell? W5 _ HD.out.2.1)).trans HD.out.2.1
  have hd2 := (hA.cell (p := ⟨gB, 1, none⟩) (World.block_lt_of_cell? W5 _ HD.out.2.2.1)).trans HD.out.2.2.1
  have hd3 := (hA.cell (p := ⟨gB, 2, none⟩) (World.block_lt_of_cell? W5 _ HD.out.2.2.2)).trans HD.out.2.2.2
  generalize W5.alloc (.cells #[.int .i64 32, .int .i64 0, .int .i64 (-1), .int .i64 (-1), .int .i64 (-1), .int .i64 0, .int .i64 0, .int .i64 0, .int .i64 0, .slice none 0 0, .slice none 0 0, .slice none 0 0] 57) = WB at hA HPA HXA HMA HWA hd0 hd1 hd2 hd3 hgrow
  have hg2 : WB.grownBy w1 (some p2) := hgrow
  have HP1 : Hid (Pm w1 p0 p1 p3 p4 p5 p6 p7 p8) := Lib.hid (HPA.kept hg2 (fun b cs T fr hb hT1 hT2 e => by
    injection e with e
    subst e
    rw [HXA] at hb
    injection hb with hb
    injection hb with _ hb
    exact hT1 hb.symm))
  have HM1 : Hid (w1.heap[p9]? = some (.cells MS 29 (0, 0))) := Lib.hid ((hg2.block _ (lt_of_block HMA) (fun e => by
    injection e with e
    subst e
    rw [HXA] at HMA
    injection HMA with h
    injection h with _ h
    exact absurd h (by decide))).trans HMA)
  have HB1 : Hid (Below w.heap.size w w1) := Lib.hid (HWA.grown hg2 HWA.size (fun k hk => by injection hk with hk; have := HGE.out.1; omega))
  have HD1 : Hid (w1.cell? ⟨gR, 0, none⟩ = some (.slice (some ⟨gB, 0, none⟩) 3 cB) ∧ w1.cell? ⟨gB, 0, none⟩ = some (.bool true) ∧ w1.cell? ⟨gB, 1, none⟩ = some (.bool false) ∧ w1.cell? ⟨gB, 2, none⟩ = some (.bool false)) := Lib.hid
    ⟨hg2.cell hd0 (fun e => by injection e with e; have := HGG.out.1; have := HLT.out.1; simp only at e; omega), hg2.cell hd1 (fun e => by injection e with e; have := HGG.out.2; have := HLT.out.1; simp only at e; omega), hg2.cell hd2 (fun e => by injection e with e; have := HGG.out.2; have := HLT.out.1; simp only at e; omega), hg2.cell hd3 (fun e => by injection e with e; have := HGG.out.2; have := HLT.out.1; simp only at e; omega)⟩
  clear hown hgrow hA HPA HXA HMA HWA hd0 hd1 hd2 hd3 hg2 c6
  have c6 : w1.cell? ⟨p9, 6, none⟩ = some (.slice (some ⟨p2, 0, none⟩) 3 3) := (cell_of_row _ _ _ _ _ _ HM1.out).trans (by rw [HMS.out]; rfl)
  have hf6 : w1.frozen? ⟨p9, 6, none⟩ = false := frozen_of_row _ _ _ _ _ HM1.out
  go_upto_region 9 with fail
  clear c6 hf6
  have HPN : Hid (Pm (w1.setCell ⟨p9, 6, none⟩ (.slice (some ⟨gX, 0, none⟩) 4 cX)) p0 p1 p3 p4 p5 p6 p7 p8) := Lib.hid (HP1.out.kept (row := some p9) ⟨rfl, rfl, rfl, by simp [World.setCell], fun k hk hka => heap_setCell_other _ _ _ _ fun e => hka (by rw [e])⟩ (fun b cs T fr hb hT1 hT2 e => by
    injection e with e
    subst e
    rw [HM1.out] at hb
    injection hb with hb
    injection hb with _ hb
    exact hT2 hb.symm))
  have hXk := Lib.ownsRow_kind HOW.out gX rfl
  have HNE : Hid (gX ≠ p9) := Lib.hid (by
    rintro rfl
    obtain ⟨c, fz, h1⟩ := hXk
    rw [HM1.out] at h1
    injection h1 with h1
    injection h1 with _ h1
    exact absurd h1 (by decide))
  have HXL : Hid (gX < (w1.setCell ⟨p9, 6, none⟩ (.slice (some ⟨gX, 0, none⟩) 4 cX)).heap.size) := Lib.hid (by
    have h1 := (HOW.out.lt gX rfl).2
    simpa [World.setCell] using h1)
  have HXC : Hid (∀ i, i < (oX ++ oL).length → (w1.setCell ⟨p9, 6, none⟩ (.slice (some ⟨gX, 0, none⟩) 4 cX)).cell? ⟨gX, i, none⟩ = (oX ++ oL)[i]?) := Lib.hid fun i hi => by
    rw [World.cell?_setCell_other _ _ _ _ (by intro e; injection e with e; exact HNE.out e.symm)]
    exact HOW.out.cellAt i hi
  have HMN : Hid ((w1.setCell ⟨p9, 6, none⟩ (.slice (some ⟨gX, 0, none⟩) 4 cX)).heap[p9]? = some (.cells (oM p0 p1 p8 (.slice (some ⟨gX, 0, none⟩) 4 cX)) 29 (0, 0))) := Lib.hid (by
    rw [heap_setCell_same w1 p9 6 _ _ _ HM1.out, HMS.out]; rfl)
  have HBN : Hid (Below w.heap.size w (w1.setCell ⟨p9, 6, none⟩ (.slice (some ⟨gX, 0, none⟩) 4 cX))) := Lib.hid (HB1.out.setCell (by show _ ≤ p9; exact HGE.out.2) _)
  have HDN : Hid ((w1.setCell ⟨p9, 6, none⟩ (.slice (some ⟨gX, 0, none⟩) 4 cX)).cell? ⟨gR, 0, none⟩ = some (.slice (some ⟨gB, 0, none⟩) 3 cB) ∧ (w1.setCell ⟨p9, 6, none⟩ (.slice (some ⟨gX, 0, none⟩) 4 cX)).cell? ⟨gB, 0, none⟩ = some (.bool true) ∧ (w1.setCell ⟨p9, 6, none⟩ (.slice (some ⟨gX, 0, none⟩) 4 cX)).cell? ⟨gB, 1, none⟩ = some (.bool false) ∧ (w1.setCell ⟨p9, 6, none⟩ (.slice (some ⟨gX, 0, none⟩) 4 cX)).cell? ⟨gB, 2, none⟩ = some (.bool false)) := Lib.hid (by
    have h1 := HGG.out
    have h2 := HLT.out
    refine ⟨?_, ?_, ?_, ?_⟩
    all_goals rw [World.cell?_setCell_other _ _ _ _ (by intro e; injection e with e; omega)]
    · exact HD1.out.1
    · exact HD1.out.2.1
    · exact HD1.out.2.2.1
    · exact HD1.out.2.2.2)
  clear hXk HP1 HM1 HB1 HD1 HOW
  generalize w1.setCell ⟨p9, 6, none⟩ (.slice (some ⟨gX, 0, none⟩) 4 cX) = WN at HPN HXL HXC HMN HBN HDN ⊢
  obtain ⟨NS, hNS⟩ : ∃ c, c = oM p0 p1 p8 (.slice (some ⟨gX, 0, none⟩) 4 cX) := ⟨_, rfl⟩
  have HNZ : Hid ((Try.prog.info? 29).map (·.size) = some NS.size) := Lib.hid (by rw [hNS]; exact HMI.out)
  have HAF := Lib.hid (HADM.out WN gX cX HPN.out HXL.out HXC.out)
  rw [← hNS] at HMN HAF
  clear hNS HADM HPN HXL HXC
  go_wp2_with (refine wpList_load_row rfl _ _ rfl _ rfl _ NS _ _ HMN.out Try.underlying29 rfl HNZ.out ?_)
  refine HAF.out.mono ?_
  rintro e W9 ⟨rfl, hb9⟩
  have hd0 := (hb9.cell (p := ⟨gR, 0, none⟩) (World.block_lt_of_cell? WN _ HDN.out.1)).trans HDN.out.1
  have hd1 := (hb9.cell (p := ⟨gB, 0, none⟩) (World.block_lt_of_cell? WN _ HDN.out.2.1)).trans HDN.out.2.1
  have hd2 := (hb9.cell (p := ⟨gB, 1, none⟩) (World.block_lt_of_cell? WN _ HDN.out.2.2.1)).trans HDN.out.2.2.1
  have hd3 := (hb9.cell (p := ⟨gB, 2, none⟩) (World.block_lt_of_cell? WN _ HDN.out.2.2.2)).trans HDN.out.2.2.2
  have HB9 : Hid (Below w.heap.size w W9) := Lib.hid (HBN.out.trans (hb9.mono HBN.out.size))
  clear hb9
  go_wp2_with fail
  go_ret
  exact ⟨rfl, HB9.out⟩
end Go.Proofs.Ytofdfaopabmfoaa
