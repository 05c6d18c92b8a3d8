/- A drawn region of the document's reading: a move is put behind the others. -/
import Derived.Test.YtifofhjfepkglaaDoorMem
import Derived.BigRegion
import Derived.Deep.RegionHeld3
namespace Go.Proofs.YtifofhjfepkglaaDoor
open Go.ChangeShapes Go.WideShapes Go.ChangeAt Go.RowKit
set_option linter.unusedVariables false
set_option linter.unusedSimpArgs false

namespace pushR
def S7 (g : Nat) (m : MV) (W : World) : Prop := W.cell? ⟨g, 0, none⟩ = some (.int .i64 m.a) ∧ W.cell? ⟨g, 1, none⟩ = some (.int .i64 m.b) ∧ W.cell? ⟨g, 2, none⟩ = some (.int .i64 m.c) ∧ W.cell? ⟨g, 3, none⟩ = some (.int .i64 m.d) ∧ W.cell? ⟨g, 4, none⟩ = some (.int .i64 m.e) ∧ W.cell? ⟨g, 5, none⟩ = some (.int .i64 m.f) ∧ W.cell? ⟨g, 6, none⟩ = some (.int .i64 m.g)
def ops : List Oper := [{ dst := some 106, op := Op.fieldAddr 25 (Operand.tmp 5) 4, type := 0, pos := "ref.go:191", after := #[], guard := none },
  { dst := some 107, op := Op.load 23 (Operand.tmp 106), type := 23, pos := "ref.go:191", after := #[{ on := 0, ground := Ground.data }], guard := none },
  { dst := some 108, op := Op.move (Operand.tmp 13), type := 50, pos := "ref.go:191", after := #[], guard := none },
  { dst := some 109, op := Op.indexAddr 50 (Operand.tmp 108) (Operand.const (Value.int IntKind.i64 0)), type := 0, pos := "ref.go:191", after := #[{ on := 2, ground := Ground.data }], guard := none },
  { dst := some 110, op := Op.load 3 (Operand.tmp 109), type := 3, pos := "ref.go:191", after := #[{ on := 3, ground := Ground.data }], guard := none },
  { dst := some 111, op := Op.move (Operand.tmp 13), type := 50, pos := "ref.go:191", after := #[], guard := none },
  { dst := some 112, op := Op.indexAddr 50 (Operand.tmp 111) (Operand.const (Value.int IntKind.i64 1)), type := 0, pos := "ref.go:191", after := #[{ on := 5, ground := Ground.data }], guard := none },
  { dst := some 113, op := Op.load 3 (Operand.tmp 112), type := 3, pos := "ref.go:191", after := #[{ on := 6, ground := Ground.data }], guard := none },
  { dst := some 114, op := Op.move (Operand.tmp 13), type := 50, pos := "ref.go:191", after := #[], guard := none },
  { dst := some 115, op := Op.indexAddr 50 (Operand.tmp 114) (Operand.const (Value.int IntKind.i64 2)), type := 0, pos := "ref.go:191", after := #[{ on := 8, ground := Ground.data }], guard := none },
  { dst := some 116, op := Op.load 3 (Operand.tmp 115), type := 3, pos := "ref.go:191", after := #[{ on := 9, ground := Ground.data }], guard := none },
  { dst := some 117, op := Op.move (Operand.tmp 13), type := 50, pos := "ref.go:191", after := #[], guard := none },
  { dst := some 118, op := Op.indexAddr 50 (Operand.tmp 117) (Operand.const (Value.int IntKind.i64 3)), type := 0, pos := "ref.go:191", after := #[{ on := 11, ground := Ground.data }], guard := none },
  { dst := some 119, op := Op.load 3 (Operand.tmp 118), type := 3, pos := "ref.go:191", after := #[{ on := 12, ground := Ground.data }], guard := none },
  { dst := some 120, op := Op.move (Operand.tmp 13), type := 50, pos := "ref.go:191", after := #[], guard := none },
  { dst := some 121, op := Op.indexAddr 50 (Operand.tmp 120) (Operand.const (Value.int IntKind.i64 4)), type := 0, pos := "ref.go:191", after := #[{ on := 14, ground := Ground.data }], guard := none },
  { dst := some 122, op := Op.load 3 (Operand.tmp 121), type := 3, pos := "ref.go:191", after := #[{ on := 15, ground := Ground.data }], guard := none },
  { dst := some 123, op := Op.move (Operand.tmp 13), type := 50, pos := "ref.go:191", after := #[], guard := none },
  { dst := some 124, op := Op.indexAddr 50 (Operand.tmp 123) (Operand.const (Value.int IntKind.i64 5)), type := 0, pos := "ref.go:191", after := #[{ on := 17, ground := Ground.data }], guard := none },
  { dst := some 125, op := Op.load 3 (Operand.tmp 124), type := 3, pos := "ref.go:191", after := #[{ on := 18, ground := Ground.data }], guard := none },
  { dst := some 126, op := Op.move (Operand.tmp 13), type := 50, pos := "ref.go:191", after := #[], guard := none },
  { dst := some 127, op := Op.indexAddr 50 (Operand.tmp 126) (Operand.const (Value.int IntKind.i64 6)), type := 0, pos := "ref.go:191", after := #[{ on := 20, ground := Ground.data }], guard := none },
  { dst := some 128, op := Op.load 3 (Operand.tmp 127), type := 3, pos := "ref.go:191", after := #[{ on := 21, ground := Ground.data }], guard := none },
  { dst := some 129, op := Op.build 47 #[(0, Operand.tmp 110), (1, Operand.tmp 113), (2, Operand.tmp 116), (3, Operand.tmp 119), (4, Operand.tmp 122), (5, Operand.tmp 125), (6, Operand.tmp 128)], type := 47, pos := "ref.go:191", after := #[{ on := 4, ground := Ground.data }, { on := 7, ground := Ground.data }, { on := 10, ground := Ground.data }, { on := 13, ground := Ground.data }, { on := 16, ground := Ground.data }, { on := 19, ground := Ground.data }, { on := 22, ground := Ground.data }], guard := none },
  { dst := some 130, op := Op.buildSlice 23 1 #[(0, Operand.tmp 129)], type := 23, pos := "ref.go:191", after := #[{ on := 23, ground := Ground.data }], guard := none },
  { dst := some 131, op := Op.call { callee := Callee.builtin Builtin.append, args := #[Operand.tmp 107, Operand.tmp 130], argTypes := #[23, 23] }, type := 23, pos := "ref.go:191", after := #[{ on := 1, ground := Ground.data }, { on := 24, ground := Ground.data }], guard := none },
  { dst := some 132, op := Op.fieldAddr 25 (Operand.tmp 5) 4, type := 0, pos := "ref.go:191", after := #[{ on := 0, ground := Ground.phase }, { on := 1, ground := Ground.phase }, { on := 2, ground := Ground.phase }, { on := 3, ground := Ground.phase }, { on := 4, ground := Ground.phase }, { on := 5, ground := Ground.phase }, { on := 6, ground := Ground.phase }, { on := 7, ground := Ground.phase }, { on := 8, ground := Ground.phase }, { on := 9, ground := Ground.phase }, { on := 10, ground := Ground.phase }, { on := 11, ground := Ground.phase }, { on := 12, ground := Ground.phase }, { on := 13, ground := Ground.phase }, { on := 14, ground := Ground.phase }, { on := 15, ground := Ground.phase }, { on := 16, ground := Ground.phase }, { on := 17, ground := Ground.phase }, { on := 18, ground := Ground.phase }, { on := 19, ground := Ground.phase }, { on := 20, ground := Ground.phase }, { on := 21, ground := Ground.phase }, { on := 22, ground := Ground.phase }, { on := 23, ground := Ground.phase }, { on := 24, ground := Ground.phase }, { on := 25, ground := Ground.phase }], guard := none },
  { dst := none, op := Op.store 23 (Operand.tmp 132) (Operand.tmp 131), type := 0, pos := "ref.go:191", after := #[{ on := 26, ground := Ground.data }, { on := 25, ground := Ground.data }, { on := 25, ground := Ground.chain }, { on := 0, ground := Ground.phase }, { on := 1, ground := Ground.phase }, { on := 2, ground := Ground.phase }, { on := 3, ground := Ground.phase }, { on := 4, ground := Ground.phase }, { on := 5, ground := Ground.phase }, { on := 6, ground := Ground.phase }, { on := 7, ground := Ground.phase }, { on := 8, ground := Ground.phase }, { on := 9, ground := Ground.phase }, { on := 10, ground := Ground.phase }, { on := 11, ground := Ground.phase }, { on := 12, ground := Ground.phase }, { on := 13, ground := Ground.phase }, { on := 14, ground := Ground.phase }, { on := 15, ground := Ground.phase }, { on := 16, ground := Ground.phase }, { on := 17, ground := Ground.phase }, { on := 18, ground := Ground.phase }, { on := 19, ground := Ground.phase }, { on := 20, ground := Ground.phase }, { on := 21, ground := Ground.phase }, { on := 22, ground := Ground.phase }, { on := 23, ground := Ground.phase }, { on := 24, ground := Ground.phase }, { on := 25, ground := Ground.phase }], guard := none }]
theorem S7.below {g : Nat} {m : MV} {W W' : World} (h : S7 g m W) (hb : W'.heap[g]? = W.heap[g]?) : S7 g m W' := by
  unfold S7 World.cell? at *
  simp only [hb]
  exact h
theorem new7 (W : World) (m : MV) (j : Nat) (u : Value) (hu : (mvL' m)[j]? = some u) : (W.alloc (.cells #[.int .i64 m.a, .int .i64 m.b, .int .i64 m.c, .int .i64 m.d, .int .i64 m.e, .int .i64 m.f, .int .i64 m.g] 47)).drew.cell? ((⟨W.heap.size, 0, none⟩ : Addr).add j) = some u := by
  have h := cell_of_row _ _ j _ _ _ (heap_alloc_new W (.cells #[.int .i64 m.a, .int .i64 m.b, .int .i64 m.c, .int .i64 m.d, .int .i64 m.e, .int .i64 m.f, .int .i64 m.g] 47))
  have e : (⟨W.heap.size, 0, none⟩ : Addr).add j = ⟨W.heap.size, j, none⟩ := by
    cases j <;> simp [Addr.add]
  rw [e]
  refine Eq.trans h ?_
  simpa [mvL'] using hu

set_option maxHeartbeats 16000000 in
set_option maxRecDepth 1000000 in
theorem reg (Q : Exit → Act → World → Prop) (fb g cap n B : Nat) (X : Nat → Value) (m : MV) (tv : Value) (xs : List Value) (W : World) (hgf : g ≠ fb) (hg : g < W.heap.size) (hfb : fb < W.heap.size) (hfB : fb < B) (hBW : B ≤ W.heap.size)
    (hR : S7 g m W) (hown : W.ownsRow B 47 7 tv n xs) (hno : tv.ownBlock ≠ some g) (hn : n ≤ 400000000)
    (x4 : W.cell? ⟨fb, 4, none⟩ = some tv) (y4 : W.frozen? ⟨fb, 4, none⟩ = false)
    (hQ : ∀ v2 W2, W2.ownsRow B 47 7 v2 (n + 1) (xs ++ mvL' m) → (W.alloc (.cells #[.int .i64 m.a, .int .i64 m.b, .int .i64 m.c, .int .i64 m.d, .int .i64 m.e, .int .i64 m.f, .int .i64 m.g] 47)).drew.grownBy W2 tv.ownBlock → ∀ W3, W3 = W2.setCell ⟨fb, 4, none⟩ v2 → Q .normal { tmps := #[X 0, X 1, X 2, X 3, X 4, .pointer (some ⟨fb, 0, none⟩), X 6, X 7, X 8, X 9, X 10, X 11, X 12, .slice (some ⟨g, 0, none⟩) 7 cap, X 14, X 15, X 16, X 17, X 18, X 19, X 20, X 21, X 22, X 23, X 24, X 25, X 26, X 27, X 28, X 29, X 30, X 31, X 32, X 33, X 34, X 35, X 36, X 37, X 38, X 39, X 40, X 41, X 42, X 43, X 44, X 45, X 46, X 47, X 48, X 49, X 50, X 51, X 52, X 53, X 54, X 55, X 56, X 57, X 58, X 59, X 60, X 61, X 62, X 63, X 64, X 65, X 66, X 67, X 68, X 69, X 70, X 71, X 72, X 73, X 74, X 75, X 76, X 77, X 78, X 79, X 80, X 81, X 82, X 83, X 84, X 85, X 86, X 87, X 88, X 89, X 90, X 91, X 92, X 93, X 94, X 95, X 96, X 97, X 98, X 99, X 100, X 101, X 102, X 103, X 104, X 105, .pointer (some ⟨fb, 4, none⟩), tv, .slice (some ⟨g, 0, none⟩) 7 cap, .pointer (some ⟨g, 0, none⟩), .int .i64 m.a, .slice (some ⟨g, 0, none⟩) 7 cap, .pointer (some ⟨g, 1, none⟩), .int .i64 m.b, .slice (some ⟨g, 0, none⟩) 7 cap, .pointer (some ⟨g, 2, none⟩), .int .i64 m.c, .slice (some ⟨g, 0, none⟩) 7 cap, .pointer (some ⟨g, 3, none⟩), .int .i64 m.d, .slice (some ⟨g, 0, none⟩) 7 cap, .pointer (some ⟨g, 4, none⟩), .int .i64 m.e, .slice (some ⟨g, 0, none⟩) 7 cap, .pointer (some ⟨g, 5, none⟩), .int .i64 m.f, .slice (some ⟨g, 0, none⟩) 7 cap, .pointer (some ⟨g, 6, none⟩), .int .i64 m.g, .agg #[.int .i64 m.a, .int .i64 m.b, .int .i64 m.c, .int .i64 m.d, .int .i64 m.e, .int .i64 m.f, .int .i64 m.g], .slice (some ⟨W.heap.size, 0, none⟩) 1 1, v2, .pointer (some ⟨fb, 4, none⟩), X 133, X 134, X 135, X 136, X 137, X 138, X 139, X 140, X 141, X 142, X 143, X 144, X 145, X 146, X 147, X 148, X 149, X 150], defers := [] } W3) :
    (Code.region 24 ops.toArray true).wp Tryd.prog Q { tmps := #[X 0, X 1, X 2, X 3, X 4, .pointer (some ⟨fb, 0, none⟩), X 6, X 7, X 8, X 9, X 10, X 11, X 12, .slice (some ⟨g, 0, none⟩) 7 cap, X 14, X 15, X 16, X 17, X 18, X 19, X 20, X 21, X 22, X 23, X 24, X 25, X 26, X 27, X 28, X 29, X 30, X 31, X 32, X 33, X 34, X 35, X 36, X 37, X 38, X 39, X 40, X 41, X 42, X 43, X 44, X 45, X 46, X 47, X 48, X 49, X 50, X 51, X 52, X 53, X 54, X 55, X 56, X 57, X 58, X 59, X 60, X 61, X 62, X 63, X 64, X 65, X 66, X 67, X 68, X 69, X 70, X 71, X 72, X 73, X 74, X 75, X 76, X 77, X 78, X 79, X 80, X 81, X 82, X 83, X 84, X 85, X 86, X 87, X 88, X 89, X 90, X 91, X 92, X 93, X 94, X 95, X 96, X 97, X 98, X 99, X 100, X 101, X 102, X 103, X 104, X 105, X 106, X 107, X 108, X 109, X 110, X 111, X 112, X 113, X 114, X 115, X 116, X 117, X 118, X 119, X 120, X 121, X 122, X 123, X 124, X 125, X 126, X 127, X 128, X 129, X 130, X 131, X 132, X 133, X 134, X 135, X 136, X 137, X 138, X 139, X 140, X 141, X 142, X 143, X 144, X 145, X 146, X 147, X 148, X 149, X 150], defers := [] } W := by
  obtain ⟨i47, hi, hz0, hsz, hby⟩ := info_parts infoMv
  have HI := Lib.hid (And.intro hi (And.intro hz0 (And.intro hsz hby)))
  clear hi hz0 hsz hby
  have HQ := Lib.hid hQ
  have HO := Lib.hid hown
  clear hQ hown
  unfold ops
  refine wp_region_noPanic ?_
  refine wp_region_held_drew (S := S7 g m) (by kernel_rfl) (S7.below hR rfl) (fun hHeld => ?_)
  refine wpAnyH_take (i := 0) (oi := { dst := some 106, op := Op.fieldAddr 25 (Operand.tmp 5) 4, type := 0, pos := "ref.go:191", after := #[], guard := none }) (v := .pointer (some ⟨fb, 4, none⟩)) rfl (by kernel_rfl) (by kernel_rfl) (by kernel_rfl) (fun _ _ _ h => h) (Or.inl ⟨by rfl, fun w' hSw => (by go_simp)⟩) hHeld ?_
  simp only [Act.put, List.setIfInBounds_toArray, List.set_cons_zero, List.set_cons_succ]
  refine wpAnyH_take (i := 2) (oi := { dst := some 108, op := Op.move (Operand.tmp 13), type := 50, pos := "ref.go:191", after := #[], guard := none }) (v := .slice (some ⟨g, 0, none⟩) 7 cap) rfl (by kernel_rfl) (by kernel_rfl) (by kernel_rfl) (fun _ _ _ h => h) (Or.inl ⟨by rfl, fun w' hSw => (by go_simp)⟩) hHeld ?_
  simp only [Act.put, List.setIfInBounds_toArray, List.set_cons_zero, List.set_cons_succ]
  refine wpAnyH_take (i := 3) (oi := { dst := some 109, op := Op.indexAddr 50 (Operand.tmp 108) (Operand.const (Value.int IntKind.i64 0)), type := 0, pos := "ref.go:191", after := #[{ on := 2, ground := Ground.data }], guard := none }) (v := .pointer (some ⟨g, 0, none⟩)) rfl (by kernel_rfl) (by kernel_rfl) (by kernel_rfl) (fun _ _ _ h => h) (Or.inl ⟨by rfl, fun w' hSw => (by go_simp)⟩) hHeld ?_
  simp only [Act.put, List.setIfInBounds_toArray, List.set_cons_zero, List.set_cons_succ]
  refine wpAnyH_take (i := 4) (oi := { dst := some 110, op := Op.load 3 (Operand.tmp 109), type := 3, pos := "ref.go:191", after := #[{ on := 3, ground := Ground.data }], guard := none }) (v := .int .i64 m.a) rfl (by kernel_rfl) (by kernel_rfl) (by kernel_rfl) (fun _ _ _ h => h) (Or.inl ⟨by rfl, fun w' hSw => (by unfold S7 at hSw; obtain ⟨r0, r1, r2, r3, r4, r5, r6⟩ := hSw; go_simp)⟩) hHeld ?_
  simp only [Act.put, List.setIfInBounds_toArray, List.set_cons_zero, List.set_cons_succ]
  refine wpAnyH_take (i := 5) (oi := { dst := some 111, op := Op.move (Operand.tmp 13), type := 50, pos := "ref.go:191", after := #[], guard := none }) (v := .slice (some ⟨g, 0, none⟩) 7 cap) rfl (by kernel_rfl) (by kernel_rfl) (by kernel_rfl) (fun _ _ _ h => h) (Or.inl ⟨by rfl, fun w' hSw => (by go_simp)⟩) hHeld ?_
  simp only [Act.put, List.setIfInBounds_toArray, List.set_cons_zero, List.set_cons_succ]
  refine wpAnyH_take (i := 6) (oi := { dst := some 112, op := Op.indexAddr 50 (Operand.tmp 111) (Operand.const (Value.int IntKind.i64 1)), type := 0, pos := "ref.go:191", after := #[{ on := 5, ground := Ground.data }], guard := none }) (v := .pointer (some ⟨g, 1, none⟩)) rfl (by kernel_rfl) (by kernel_rfl) (by kernel_rfl) (fun _ _ _ h => h) (Or.inl ⟨by rfl, fun w' hSw => (by go_simp)⟩) hHeld ?_
  simp only [Act.put, List.setIfInBounds_toArray, List.set_cons_zero, List.set_cons_succ]
  refine wpAnyH_take (i := 7) (oi := { dst := some 113, op := Op.load 3 (Operand.tmp 112), type := 3, pos := "ref.go:191", after := #[{ on := 6, ground := Ground.data }], guard := none }) (v := .int .i64 m.b) rfl (by kernel_rfl) (by kernel_rfl) (by kernel_rfl) (fun _ _ _ h => h) (Or.inl ⟨by rfl, fun w' hSw => (by unfold S7 at hSw; obtain ⟨r0, r1, r2, r3, r4, r5, r6⟩ := hSw; go_simp)⟩) hHeld ?_
  simp only [Act.put, List.setIfInBounds_toArray, List.set_cons_zero, List.set_cons_succ]
  refine wpAnyH_take (i := 8) (oi := { dst := some 114, op := Op.move (Operand.tmp 13), type := 50, pos := "ref.go:191", after := #[], guard := none }) (v := .slice (some ⟨g, 0, none⟩) 7 cap) rfl (by kernel_rfl) (by kernel_rfl) (by kernel_rfl) (fun _ _ _ h => h) (Or.inl ⟨by rfl, fun w' hSw => (by go_simp)⟩) hHeld ?_
  simp only [Act.put, List.setIfInBounds_toArray, List.set_cons_zero, List.set_cons_succ]
  refine wpAnyH_take (i := 9) (oi := { dst := some 115, op := Op.indexAddr 50 (Operand.tmp 114) (Operand.const (Value.int IntKind.i64 2)), type := 0, pos := "ref.go:191", after := #[{ on := 8, ground := Ground.data }], guard := none }) (v := .pointer (some ⟨g, 2, none⟩)) rfl (by kernel_rfl) (by kernel_rfl) (by kernel_rfl) (fun _ _ _ h => h) (Or.inl ⟨by rfl, fun w' hSw => (by go_simp)⟩) hHeld ?_
  simp only [Act.put, List.setIfInBounds_toArray, List.set_cons_zero, List.set_cons_succ]
  refine wpAnyH_take (i := 10) (oi := { dst := some 116, op := Op.load 3 (Operand.tmp 115), type := 3, pos := "ref.go:191", after := #[{ on := 9, ground := Ground.data }], guard := none }) (v := .int .i64 m.c) rfl (by kernel_rfl) (by kernel_rfl) (by kernel_rfl) (fun _ _ _ h => h) (Or.inl ⟨by rfl, fun w' hSw => (by unfold S7 at hSw; obtain ⟨r0, r1, r2, r3, r4, r5, r6⟩ := hSw; go_simp)⟩) hHeld ?_
  simp only [Act.put, List.setIfInBounds_toArray, List.set_cons_zero, List.set_cons_succ]
  refine wpAnyH_take (i := 11) (oi := { dst := some 117, op := Op.move (Operand.tmp 13), type := 50, pos := "ref.go:191", after := #[], guard := none }) (v := .slice (some ⟨g, 0, none⟩) 7 cap) rfl (by kernel_rfl) (by kernel_rfl) (by kernel_rfl) (fun _ _ _ h => h) (Or.inl ⟨by rfl, fun w' hSw => (by go_simp)⟩) hHeld ?_
  simp only [Act.put, List.setIfInBounds_toArray, List.set_cons_zero, List.set_cons_succ]
  refine wpAnyH_take (i := 12) (oi := { dst := some 118, op := Op.indexAddr 50 (Operand.tmp 117) (Operand.const (Value.int IntKind.i64 3)), type := 0, pos := "ref.go:191", after := #[{ on := 11, ground := Ground.data }], guard := none }) (v := .pointer (some ⟨g, 3, none⟩)) rfl (by kernel_rfl) (by kernel_rfl) (by kernel_rfl) (fun _ _ _ h => h) (Or.inl ⟨by rfl, fun w' hSw => (by go_simp)⟩) hHeld ?_
  simp only [Act.put, List.setIfInBounds_toArray, List.set_cons_zero, List.set_cons_succ]
  refine wpAnyH_take (i := 13) (oi := { dst := some 119, op := Op.load 3 (Operand.tmp 118), type := 3, pos := "ref.go:191", after := #[{ on := 12, ground := Ground.data }], guard := none }) (v := .int .i64 m.d) rfl (by kernel_rfl) (by kernel_rfl) (by kernel_rfl) (fun _ _ _ h => h) (Or.inl ⟨by rfl, fun w' hSw => (by unfold S7 at hSw; obtain ⟨r0, r1, r2, r3, r4, r5, r6⟩ := hSw; go_simp)⟩) hHeld ?_
  simp only [Act.put, List.setIfInBounds_toArray, List.set_cons_zero, List.set_cons_succ]
  refine wpAnyH_take (i := 14) (oi := { dst := some 120, op := Op.move (Operand.tmp 13), type := 50, pos := "ref.go:191", after := #[], guard := none }) (v := .slice (some ⟨g, 0, none⟩) 7 cap) rfl (by kernel_rfl) (by kernel_rfl) (by kernel_rfl) (fun _ _ _ h => h) (Or.inl ⟨by rfl, fun w' hSw => (by go_simp)⟩) hHeld ?_
  simp only [Act.put, List.setIfInBounds_toArray, List.set_cons_zero, List.set_cons_succ]
  refine wpAnyH_take (i := 15) (oi := { dst := some 121, op := Op.indexAddr 50 (Operand.tmp 120) (Operand.const (Value.int IntKind.i64 4)), type := 0, pos := "ref.go:191", after := #[{ on := 14, ground := Ground.data }], guard := none }) (v := .pointer (some ⟨g, 4, none⟩)) rfl (by kernel_rfl) (by kernel_rfl) (by kernel_rfl) (fun _ _ _ h => h) (Or.inl ⟨by rfl, fun w' hSw => (by go_simp)⟩) hHeld ?_
  simp only [Act.put, List.setIfInBounds_toArray, List.set_cons_zero, List.set_cons_succ]
  refine wpAnyH_take (i := 16) (oi := { dst := some 122, op := Op.load 3 (Operand.tmp 121), type := 3, pos := "ref.go:191", after := #[{ on := 15, ground := Ground.data }], guard := none }) (v := .int .i64 m.e) rfl (by kernel_rfl) (by kernel_rfl) (by kernel_rfl) (fun _ _ _ h => h) (Or.inl ⟨by rfl, fun w' hSw => (by unfold S7 at hSw; obtain ⟨r0, r1, r2, r3, r4, r5, r6⟩ := hSw; go_simp)⟩) hHeld ?_
  simp only [Act.put, List.setIfInBounds_toArray, List.set_cons_zero, List.set_cons_succ]
  refine wpAnyH_take (i := 17) (oi := { dst := some 123, op := Op.move (Operand.tmp 13), type := 50, pos := "ref.go:191", after := #[], guard := none }) (v := .slice (some ⟨g, 0, none⟩) 7 cap) rfl (by kernel_rfl) (by kernel_rfl) (by kernel_rfl) (fun _ _ _ h => h) (Or.inl ⟨by rfl, fun w' hSw => (by go_simp)⟩) hHeld ?_
  simp only [Act.put, List.setIfInBounds_toArray, List.set_cons_zero, List.set_cons_succ]
  refine wpAnyH_take (i := 18) (oi := { dst := some 124, op := Op.indexAddr 50 (Operand.tmp 123) (Operand.const (Value.int IntKind.i64 5)), type := 0, pos := "ref.go:191", after := #[{ on := 17, ground := Ground.data }], guard := none }) (v := .pointer (some ⟨g, 5, none⟩)) rfl (by kernel_rfl) (by kernel_rfl) (by kernel_rfl) (fun _ _ _ h => h) (Or.inl ⟨by rfl, fun w' hSw => (by go_simp)⟩) hHeld ?_
  simp only [Act.put, List.setIfInBounds_toArray, List.set_cons_zero, List.set_cons_succ]
  refine wpAnyH_take (i := 19) (oi := { dst := some 125, op := Op.load 3 (Operand.tmp 124), type := 3, pos := "ref.go:191", after := #[{ on := 18, ground := Ground.data }], guard := none }) (v := .int .i64 m.f) rfl (by kernel_rfl) (by kernel_rfl) (by kernel_rfl) (fun _ _ _ h => h) (Or.inl ⟨by rfl, fun w' hSw => (by unfold S7 at hSw; obtain ⟨r0, r1, r2, r3, r4, r5, r6⟩ := hSw; go_simp)⟩) hHeld ?_
  simp only [Act.put, List.setIfInBounds_toArray, List.set_cons_zero, List.set_cons_succ]
  refine wpAnyH_take (i := 20) (oi := { dst := some 126, op := Op.move (Operand.tmp 13), type := 50, pos := "ref.go:191", after := #[], guard := none }) (v := .slice (some ⟨g, 0, none⟩) 7 cap) rfl (by kernel_rfl) (by kernel_rfl) (by kernel_rfl) (fun _ _ _ h => h) (Or.inl ⟨by rfl, fun w' hSw => (by go_simp)⟩) hHeld ?_
  simp only [Act.put, List.setIfInBounds_toArray, List.set_cons_zero, List.set_cons_succ]
  refine wpAnyH_take (i := 21) (oi := { dst := some 127, op := Op.indexAddr 50 (Operand.tmp 126) (Operand.const (Value.int IntKind.i64 6)), type := 0, pos := "ref.go:191", after := #[{ on := 20, ground := Ground.data }], guard := none }) (v := .pointer (some ⟨g, 6, none⟩)) rfl (by kernel_rfl) (by kernel_rfl) (by kernel_rfl) (fun _ _ _ h => h) (Or.inl ⟨by rfl, fun w' hSw => (by go_simp)⟩) hHeld ?_
  simp only [Act.put, List.setIfInBounds_toArray, List.set_cons_zero, List.set_cons_succ]
  refine wpAnyH_take (i := 22) (oi := { dst := some 128, op := Op.load 3 (Operand.tmp 127), type := 3, pos := "ref.go:191", after := #[{ on := 21, ground := Ground.data }], guard := none }) (v := .int .i64 m.g) rfl (by kernel_rfl) (by kernel_rfl) (by kernel_rfl) (fun _ _ _ h => h) (Or.inl ⟨by rfl, fun w' hSw => (by unfold S7 at hSw; obtain ⟨r0, r1, r2, r3, r4, r5, r6⟩ := hSw; go_simp)⟩) hHeld ?_
  simp only [Act.put, List.setIfInBounds_toArray, List.set_cons_zero, List.set_cons_succ]
  refine wpAnyH_take (i := 23) (oi := { dst := some 129, op := Op.build 47 #[(0, Operand.tmp 110), (1, Operand.tmp 113), (2, Operand.tmp 116), (3, Operand.tmp 119), (4, Operand.tmp 122), (5, Operand.tmp 125), (6, Operand.tmp 128)], type := 47, pos := "ref.go:191", after := #[{ on := 4, ground := Ground.data }, { on := 7, ground := Ground.data }, { on := 10, ground := Ground.data }, { on := 13, ground := Ground.data }, { on := 16, ground := Ground.data }, { on := 19, ground := Ground.data }, { on := 22, ground := Ground.data }], guard := none }) (v := .agg #[.int .i64 m.a, .int .i64 m.b, .int .i64 m.c, .int .i64 m.d, .int .i64 m.e, .int .i64 m.f, .int .i64 m.g]) rfl (by kernel_rfl) (by kernel_rfl) (by kernel_rfl) (fun _ _ _ h => h) (Or.inl ⟨by rfl, fun w' hSw => (by go_simp)⟩) hHeld ?_
  simp only [Act.put, List.setIfInBounds_toArray, List.set_cons_zero, List.set_cons_succ]
  have x4d : W.drew.cell? ⟨fb, 4, none⟩ = some tv := x4
  have hba : Below W.heap.size W (W.alloc (.cells #[.int .i64 m.a, .int .i64 m.b, .int .i64 m.c, .int .i64 m.d, .int .i64 m.e, .int .i64 m.f, .int .i64 m.g] 47)).drew := ((Below.refl _ _).alloc (Nat.le_refl _) _).drew
  have HSA : Hid (S7 g m (W.alloc (.cells #[.int .i64 m.a, .int .i64 m.b, .int .i64 m.c, .int .i64 m.d, .int .i64 m.e, .int .i64 m.f, .int .i64 m.g] 47)).drew) := Lib.hid (S7.below hR (hba.block g hg))
  have HOA : Hid ((W.alloc (.cells #[.int .i64 m.a, .int .i64 m.b, .int .i64 m.c, .int .i64 m.d, .int .i64 m.e, .int .i64 m.f, .int .i64 m.g] 47)).drew.ownsRow B 47 7 tv n xs) := Lib.hid (own_below HO.out hba)
  have HSZ : Hid (g < (W.alloc (.cells #[.int .i64 m.a, .int .i64 m.b, .int .i64 m.c, .int .i64 m.d, .int .i64 m.e, .int .i64 m.f, .int .i64 m.g] 47)).drew.heap.size ∧ fb < (W.alloc (.cells #[.int .i64 m.a, .int .i64 m.b, .int .i64 m.c, .int .i64 m.d, .int .i64 m.e, .int .i64 m.f, .int .i64 m.g] 47)).drew.heap.size) := Lib.hid ⟨Nat.lt_of_lt_of_le hg hba.size, Nat.lt_of_lt_of_le hfb hba.size⟩
  have HBA : Hid (B ≤ (W.alloc (.cells #[.int .i64 m.a, .int .i64 m.b, .int .i64 m.c, .int .i64 m.d, .int .i64 m.e, .int .i64 m.f, .int .i64 m.g] 47)).drew.heap.size) := Lib.hid (Nat.le_trans hBW hba.size)
  have HNF : Hid (tv.ownBlock ≠ some fb) := Lib.hid (fun e => by have := (HO.out.lt fb e).1; omega)
  have HX4 : Hid ((W.alloc (.cells #[.int .i64 m.a, .int .i64 m.b, .int .i64 m.c, .int .i64 m.d, .int .i64 m.e, .int .i64 m.f, .int .i64 m.g] 47)).drew.cell? ⟨fb, 4, none⟩ = some tv) := Lib.hid ((hba.cell hfb).trans x4)
  have HY4 : Hid ((W.alloc (.cells #[.int .i64 m.a, .int .i64 m.b, .int .i64 m.c, .int .i64 m.d, .int .i64 m.e, .int .i64 m.f, .int .i64 m.g] 47)).drew.frozen? ⟨fb, 4, none⟩ = false) := Lib.hid (by unfold World.frozen? at y4 ⊢; rw [hba.block fb hfb]; exact y4)
  have x4a := HX4.out
  clear hba
  refine wpAnyH_ready (rs := [1, 24]) (by kernel_rfl) (by simp) ?_
  refine AllReadyH.cons (o := { dst := some 107, op := Op.load 23 (Operand.tmp 106), type := 23, pos := "ref.go:191", after := #[{ on := 0, ground := Ground.data }], guard := none }) rfl (fun K hK => ?_) ?_
  · go_simp
    refine hK.out _ _ hHeld (fun hHeld => ?_)
    clear hK K
    try simp only [Act.put, List.setIfInBounds_toArray, List.set_cons_zero, List.set_cons_succ]
    refine wpAnyH_ready (rs := [24]) (by kernel_rfl) (by simp) ?_
    refine AllReadyH.cons (o := { dst := some 130, op := Op.buildSlice 23 1 #[(0, Operand.tmp 129)], type := 23, pos := "ref.go:191", after := #[{ on := 23, ground := Ground.data }], guard := none }) rfl (fun K hK => ?_) AllReadyH.nil
    go_simp
    refine hK.out _ _ HSA.out (fun hHeld => ?_)
    clear hK K
    try simp only [Act.put, List.setIfInBounds_toArray, List.set_cons_zero, List.set_cons_succ]
    refine wpAnyH_ready (rs := [25]) (by kernel_rfl) (by simp) ?_
    refine AllReadyH.cons (o := { dst := some 131, op := Op.call { callee := Callee.builtin Builtin.append, args := #[Operand.tmp 107, Operand.tmp 130], argTypes := #[23, 23] }, type := 23, pos := "ref.go:191", after := #[{ on := 1, ground := Ground.data }, { on := 24, ground := Ground.data }], guard := none }) rfl (fun K hK => ?_) AllReadyH.nil
    rw [if_pos (by rfl)]
    refine wp_append_own _ (.tmp 107) (.tmp 130) 23 rfl B 47 i47 zeroMv 7 56 Tryd.underlying23 HI.out.1 HI.out.2.1 HI.out.2.2.1 HI.out.2.2.2 rfl (by decide) tv n xs (by simp [Act.eval]) HOA.out ⟨W.heap.size, 0, none⟩ 1 1 (mvL' m) (by simp [Act.eval]) rfl (new7 W m) (mvL'_one m) (by unfold maxLen; omega) (by omega) HBA.out ?_
    intro v2 W2 hown2 hgrow2 _
    obtain ⟨o2, c2, rfl⟩ := own_form hown2
    have HO2 := Lib.hid hown2
    have HG2 := Lib.hid hgrow2
    have hS2 := S7.below HSA.out (HG2.out.block g (by have := HSZ.out; omega) (fun e => hno e.symm))
    have h2b := (HG2.out.block fb (by have := HSZ.out; omega) (fun e => HNF.out e.symm))
    have x42 : W2.cell? ⟨fb, 4, none⟩ = some tv := by unfold World.cell?; rw [h2b]; exact HX4.out
    have y42 : W2.frozen? ⟨fb, 4, none⟩ = false := by unfold World.frozen?; rw [h2b]; exact HY4.out
    clear hown2 hgrow2 h2b
    refine hK.out _ _ hS2 (fun hHeld => ?_)
    clear hK K
    try simp only [Act.put, List.setIfInBounds_toArray, List.set_cons_zero, List.set_cons_succ]
    refine wpAnyH_take (i := 26) (oi := { dst := some 132, op := Op.fieldAddr 25 (Operand.tmp 5) 4, type := 0, pos := "ref.go:191", after := #[{ on := 0, ground := Ground.phase }, { on := 1, ground := Ground.phase }, { on := 2, ground := Ground.phase }, { on := 3, ground := Ground.phase }, { on := 4, ground := Ground.phase }, { on := 5, ground := Ground.phase }, { on := 6, ground := Ground.phase }, { on := 7, ground := Ground.phase }, { on := 8, ground := Ground.phase }, { on := 9, ground := Ground.phase }, { on := 10, ground := Ground.phase }, { on := 11, ground := Ground.phase }, { on := 12, ground := Ground.phase }, { on := 13, ground := Ground.phase }, { on := 14, ground := Ground.phase }, { on := 15, ground := Ground.phase }, { on := 16, ground := Ground.phase }, { on := 17, ground := Ground.phase }, { on := 18, ground := Ground.phase }, { on := 19, ground := Ground.phase }, { on := 20, ground := Ground.phase }, { on := 21, ground := Ground.phase }, { on := 22, ground := Ground.phase }, { on := 23, ground := Ground.phase }, { on := 24, ground := Ground.phase }, { on := 25, ground := Ground.phase }], guard := none }) (v := .pointer (some ⟨fb, 4, none⟩)) rfl (by kernel_rfl) (by kernel_rfl) (by kernel_rfl) (fun _ _ _ h => h) (Or.inl ⟨by rfl, fun w' hSw => (by go_simp)⟩) hHeld ?_
    try simp only [Act.put, List.setIfInBounds_toArray, List.set_cons_zero, List.set_cons_succ]
    refine wpAnyH_ready (rs := [27]) (by kernel_rfl) (by simp) ?_
    refine AllReadyH.cons (o := { dst := none, op := Op.store 23 (Operand.tmp 132) (Operand.tmp 131), type := 0, pos := "ref.go:191", after := #[{ on := 26, ground := Ground.data }, { on := 25, ground := Ground.data }, { on := 25, ground := Ground.chain }, { on := 0, ground := Ground.phase }, { on := 1, ground := Ground.phase }, { on := 2, ground := Ground.phase }, { on := 3, ground := Ground.phase }, { on := 4, ground := Ground.phase }, { on := 5, ground := Ground.phase }, { on := 6, ground := Ground.phase }, { on := 7, ground := Ground.phase }, { on := 8, ground := Ground.phase }, { on := 9, ground := Ground.phase }, { on := 10, ground := Ground.phase }, { on := 11, ground := Ground.phase }, { on := 12, ground := Ground.phase }, { on := 13, ground := Ground.phase }, { on := 14, ground := Ground.phase }, { on := 15, ground := Ground.phase }, { on := 16, ground := Ground.phase }, { on := 17, ground := Ground.phase }, { on := 18, ground := Ground.phase }, { on := 19, ground := Ground.phase }, { on := 20, ground := Ground.phase }, { on := 21, ground := Ground.phase }, { on := 22, ground := Ground.phase }, { on := 23, ground := Ground.phase }, { on := 24, ground := Ground.phase }, { on := 25, ground := Ground.phase }], guard := none }) rfl (fun K hK => ?_) AllReadyH.nil
    go_simp
    refine hK.out _ _ (S7.below hHeld (heap_setCell_other _ _ _ _ (by exact hgf))) (fun hHeld => ?_)
    clear hK K
    refine wpAnyH_done (by kernel_rfl) ?_ _
    exact NoPanic.normal (HQ.out _ _ HO2.out HG2.out _ rfl)
  · refine AllReadyH.cons (o := { dst := some 130, op := Op.buildSlice 23 1 #[(0, Operand.tmp 129)], type := 23, pos := "ref.go:191", after := #[{ on := 23, ground := Ground.data }], guard := none }) rfl (fun K hK => ?_) AllReadyH.nil
    go_simp
    refine hK.out _ _ HSA.out (fun hHeld => ?_)
    clear hK K
    try simp only [Act.put, List.setIfInBounds_toArray, List.set_cons_zero, List.set_cons_succ]
    refine wpAnyH_ready (rs := [1]) (by kernel_rfl) (by simp) ?_
    refine AllReadyH.cons (o := { dst := some 107, op := Op.load 23 (Operand.tmp 106), type := 23, pos := "ref.go:191", after := #[{ on := 0, ground := Ground.data }], guard := none }) rfl (fun K hK => ?_) AllReadyH.nil
    go_simp
    refine hK.out _ _ hHeld (fun hHeld => ?_)
    clear hK K
    try simp only [Act.put, List.setIfInBounds_toArray, List.set_cons_zero, List.set_cons_succ]
    refine wpAnyH_ready (rs := [25]) (by kernel_rfl) (by simp) ?_
    refine AllReadyH.cons (o := { dst := some 131, op := Op.call { callee := Callee.builtin Builtin.append, args := #[Operand.tmp 107, Operand.tmp 130], argTypes := #[23, 23] }, type := 23, pos := "ref.go:191", after := #[{ on := 1, ground := Ground.data }, { on := 24, ground := Ground.data }], guard := none }) rfl (fun K hK => ?_) AllReadyH.nil
    rw [if_pos (by rfl)]
    refine wp_append_own _ (.tmp 107) (.tmp 130) 23 rfl B 47 i47 zeroMv 7 56 Tryd.underlying23 HI.out.1 HI.out.2.1 HI.out.2.2.1 HI.out.2.2.2 rfl (by decide) tv n xs (by simp [Act.eval]) HOA.out ⟨W.heap.size, 0, none⟩ 1 1 (mvL' m) (by simp [Act.eval]) rfl (new7 W m) (mvL'_one m) (by unfold maxLen; omega) (by omega) HBA.out ?_
    intro v2 W2 hown2 hgrow2 _
    obtain ⟨o2, c2, rfl⟩ := own_form hown2
    have HO2 := Lib.hid hown2
    have HG2 := Lib.hid hgrow2
    have hS2 := S7.below HSA.out (HG2.out.block g (by have := HSZ.out; omega) (fun e => hno e.symm))
    have h2b := (HG2.out.block fb (by have := HSZ.out; omega) (fun e => HNF.out e.symm))
    have x42 : W2.cell? ⟨fb, 4, none⟩ = some tv := by unfold World.cell?; rw [h2b]; exact HX4.out
    have y42 : W2.frozen? ⟨fb, 4, none⟩ = false := by unfold World.frozen?; rw [h2b]; exact HY4.out
    clear hown2 hgrow2 h2b
    refine hK.out _ _ hS2 (fun hHeld => ?_)
    clear hK K
    try simp only [Act.put, List.setIfInBounds_toArray, List.set_cons_zero, List.set_cons_succ]
    refine wpAnyH_take (i := 26) (oi := { dst := some 132, op := Op.fieldAddr 25 (Operand.tmp 5) 4, type := 0, pos := "ref.go:191", after := #[{ on := 0, ground := Ground.phase }, { on := 1, ground := Ground.phase }, { on := 2, ground := Ground.phase }, { on := 3, ground := Ground.phase }, { on := 4, ground := Ground.phase }, { on := 5, ground := Ground.phase }, { on := 6, ground := Ground.phase }, { on := 7, ground := Ground.phase }, { on := 8, ground := Ground.phase }, { on := 9, ground := Ground.phase }, { on := 10, ground := Ground.phase }, { on := 11, ground := Ground.phase }, { on := 12, ground := Ground.phase }, { on := 13, ground := Ground.phase }, { on := 14, ground := Ground.phase }, { on := 15, ground := Ground.phase }, { on := 16, ground := Ground.phase }, { on := 17, ground := Ground.phase }, { on := 18, ground := Ground.phase }, { on := 19, ground := Ground.phase }, { on := 20, ground := Ground.phase }, { on := 21, ground := Ground.phase }, { on := 22, ground := Ground.phase }, { on := 23, ground := Ground.phase }, { on := 24, ground := Ground.phase }, { on := 25, ground := Ground.phase }], guard := none }) (v := .pointer (some ⟨fb, 4, none⟩)) rfl (by kernel_rfl) (by kernel_rfl) (by kernel_rfl) (fun _ _ _ h => h) (Or.inl ⟨by rfl, fun w' hSw => (by go_simp)⟩) hHeld ?_
    try simp only [Act.put, List.setIfInBounds_toArray, List.set_cons_zero, List.set_cons_succ]
    refine wpAnyH_ready (rs := [27]) (by kernel_rfl) (by simp) ?_
    refine AllReadyH.cons (o := { dst := none, op := Op.store 23 (Operand.tmp 132) (Operand.tmp 131), type := 0, pos := "ref.go:191", after := #[{ on := 26, ground := Ground.data }, { on := 25, ground := Ground.data }, { on := 25, ground := Ground.chain }, { on := 0, ground := Ground.phase }, { on := 1, ground := Ground.phase }, { on := 2, ground := Ground.phase }, { on := 3, ground := Ground.phase }, { on := 4, ground := Ground.phase }, { on := 5, ground := Ground.phase }, { on := 6, ground := Ground.phase }, { on := 7, ground := Ground.phase }, { on := 8, ground := Ground.phase }, { on := 9, ground := Ground.phase }, { on := 10, ground := Ground.phase }, { on := 11, ground := Ground.phase }, { on := 12, ground := Ground.phase }, { on := 13, ground := Ground.phase }, { on := 14, ground := Ground.phase }, { on := 15, ground := Ground.phase }, { on := 16, ground := Ground.phase }, { on := 17, ground := Ground.phase }, { on := 18, ground := Ground.phase }, { on := 19, ground := Ground.phase }, { on := 20, ground := Ground.phase }, { on := 21, ground := Ground.phase }, { on := 22, ground := Ground.phase }, { on := 23, ground := Ground.phase }, { on := 24, ground := Ground.phase }, { on := 25, ground := Ground.phase }], guard := none }) rfl (fun K hK => ?_) AllReadyH.nil
    go_simp
    refine hK.out _ _ (S7.below hHeld (heap_setCell_other _ _ _ _ (by exact hgf))) (fun hHeld => ?_)
    clear hK K
    refine wpAnyH_done (by kernel_rfl) ?_ _
    exact NoPanic.normal (HQ.out _ _ HO2.out HG2.out _ rfl)
end pushR
end Go.Proofs.YtifofhjfepkglaaDoor
