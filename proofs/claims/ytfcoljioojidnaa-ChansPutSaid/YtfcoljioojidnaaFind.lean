/- Find in a queue of two messages of one number each. -/
import Derived.Test.YtfcoljioojidnaaClone
import Derived.Handy
namespace Go.Proofs.Ytfcoljioojidnaa
open Go.ChangeShapes Go.WideShapes Go.ChangeAt Go.RowKit
set_option linter.unusedVariables false
set_option linter.unusedSimpArgs false

set_option maxHeartbeats 1000000 in
set_option maxRecDepth 100000 in
theorem find_first (r a x : Int) (g g1 g2 g3 n c c1 c2 c3 : Nat) (o2 : Nat) (w : World) (hn : 1 ≤ n) (hn2 : n ≤ 9223372036854775806) (h1 : w.cell? ⟨g, 0, none⟩ = some (.slice (some ⟨g1, 0, none⟩) 1 c1)) (h2 : w.cell? ⟨g1, 0, none⟩ = some (.int .i64 a)) (h3 : w.cell? ⟨g2, 0, none⟩ = some (.int .i64 x)) (h4 : w.cell? ⟨g3, 0, none⟩ = some (.int .i64 1)) (g4 c4 : Nat) (h5 : w.cell? ⟨g, 1, none⟩ = some (.slice (some ⟨g4, 0, none⟩) 1 c4)) (hax : a ≠ x) (hn1 : n = 2) :
    Calls Try.prog 17 #[.agg #[.int .i64 r, .slice (some ⟨g, 0, none⟩) n c], .slice (some ⟨g2, 0, none⟩) 1 c2, .slice (some ⟨g3, 0, none⟩) 1 c3, .bool false] w fun e w' => e = .returned (.int .i64 (-1)) ∧ Below w.heap.size w w' := by
  have hb : (a != x) = true := by simp [hax]
  subst hn1
  have k1 : (w.alloc (Obj.cells #[.int .i64 r, .slice (some ⟨g, 0, none⟩) 2 c] 27)).cell? ⟨g, 0, none⟩ = some (.slice (some ⟨g1, 0, none⟩) 1 c1) := Lib.cell?_alloc_some _ h1
  have k2 : (w.alloc (Obj.cells #[.int .i64 r, .slice (some ⟨g, 0, none⟩) 2 c] 27)).cell? ⟨g1, 0, none⟩ = some (.int .i64 a) := Lib.cell?_alloc_some _ h2
  have k3 : (w.alloc (Obj.cells #[.int .i64 r, .slice (some ⟨g, 0, none⟩) 2 c] 27)).cell? ⟨g2, 0, none⟩ = some (.int .i64 x) := Lib.cell?_alloc_some _ h3
  have k4 : (w.alloc (Obj.cells #[.int .i64 r, .slice (some ⟨g, 0, none⟩) 2 c] 27)).cell? ⟨g3, 0, none⟩ = some (.int .i64 1) := Lib.cell?_alloc_some _ h4
  have k5 : (w.alloc (Obj.cells #[.int .i64 r, .slice (some ⟨g, 0, none⟩) 2 c] 27)).cell? ⟨g, 1, none⟩ = some (.slice (some ⟨g4, 0, none⟩) 1 c4) := Lib.cell?_alloc_some _ h5
  clear h1 h2 h3 h4 h5
  go_enter Try.func17, Try.ntmps17
  go_wp2_with fail
  go_step3
  go_wp2_with fail
  go_step3
  go_wp2_with fail
  refine wp_loop_rounds 3 ?_
  rw [rounds_succ]
  go_wp2_with fail
  refine wp_loop_rounds 2 ?_
  rw [rounds_succ]
  go_wp2_with fail
  go_quiet (fail)
  simp only [Exit.then]
  go_wp2_with fail
  rw [rounds_succ]
  go_wp2_with fail
  simp only [Exit.noGoto]
  go_ret
  exact ⟨rfl, bdrew ((Below.refl _ w).alloc (Nat.le_refl _) _) _⟩
set_option maxHeartbeats 1000000 in
set_option maxRecDepth 100000 in
theorem find_second (r a x : Int) (g g1 g2 g3 n c c1 c2 c3 : Nat) (o2 : Nat) (w : World) (hn : 1 ≤ n) (hn2 : n ≤ 9223372036854775806) (h1 : w.cell? ⟨g, 0, none⟩ = some (.slice (some ⟨g1, 0, none⟩) 1 c1)) (h2 : w.cell? ⟨g1, 0, none⟩ = some (.int .i64 a)) (h3 : w.cell? ⟨g2, 0, none⟩ = some (.int .i64 x)) (h4 : w.cell? ⟨g3, 0, none⟩ = some (.int .i64 1)) (g4 c4 : Nat) (h5 : w.cell? ⟨g, 1, none⟩ = some (.slice (some ⟨g4, 0, none⟩) 1 c4)) (h6 : w.cell? ⟨g4, 0, none⟩ = some (.int .i64 x)) (hax : a ≠ x) (hn1 : n = 2) :
    Calls Try.prog 17 #[.agg #[.int .i64 r, .slice (some ⟨g, 0, none⟩) n c], .slice (some ⟨g2, 0, none⟩) 1 c2, .slice (some ⟨g3, 0, none⟩) 1 c3, .bool true] w fun e w' => e = .returned (.int .i64 1) ∧ Below w.heap.size w w' := by
  have hb : (a != x) = true := by simp [hax]
  subst hn1
  have k1 : (w.alloc (Obj.cells #[.int .i64 r, .slice (some ⟨g, 0, none⟩) 2 c] 27)).cell? ⟨g, 0, none⟩ = some (.slice (some ⟨g1, 0, none⟩) 1 c1) := Lib.cell?_alloc_some _ h1
  have k2 : (w.alloc (Obj.cells #[.int .i64 r, .slice (some ⟨g, 0, none⟩) 2 c] 27)).cell? ⟨g1, 0, none⟩ = some (.int .i64 a) := Lib.cell?_alloc_some _ h2
  have k3 : (w.alloc (Obj.cells #[.int .i64 r, .slice (some ⟨g, 0, none⟩) 2 c] 27)).cell? ⟨g2, 0, none⟩ = some (.int .i64 x) := Lib.cell?_alloc_some _ h3
  have k4 : (w.alloc (Obj.cells #[.int .i64 r, .slice (some ⟨g, 0, none⟩) 2 c] 27)).cell? ⟨g3, 0, none⟩ = some (.int .i64 1) := Lib.cell?_alloc_some _ h4
  have k5 : (w.alloc (Obj.cells #[.int .i64 r, .slice (some ⟨g, 0, none⟩) 2 c] 27)).cell? ⟨g, 1, none⟩ = some (.slice (some ⟨g4, 0, none⟩) 1 c4) := Lib.cell?_alloc_some _ h5
  have k6 : (w.alloc (Obj.cells #[.int .i64 r, .slice (some ⟨g, 0, none⟩) 2 c] 27)).cell? ⟨g4, 0, none⟩ = some (.int .i64 x) := Lib.cell?_alloc_some _ h6
  clear h1 h2 h3 h4 h5 h6
  have hxx : (x != x) = false := by simp
  go_enter Try.func17, Try.ntmps17
  go_wp2_with fail
  go_step3
  go_wp2_with fail
  go_step3
  go_wp2_with fail
  refine wp_loop_rounds 3 ?_
  rw [rounds_succ]
  go_wp2_with fail
  refine wp_loop_rounds 2 ?_
  rw [rounds_succ]
  go_wp2_with fail
  go_quiet (fail)
  simp only [Exit.then]
  go_wp2_with fail
  rw [rounds_succ]
  go_wp2_with fail
  refine wp_loop_rounds 2 ?_
  rw [rounds_succ]
  go_wp2_with fail
  go_quiet (fail)
  simp only [Exit.then]
  go_wp2_with fail
  rw [rounds_succ]
  go_wp2_with fail
  simp only [Exit.noGoto]
  go_ret
  exact ⟨rfl, bdrew ((Below.refl _ w).alloc (Nat.le_refl _) _) _⟩
end Go.Proofs.Ytfcoljioojidnaa
