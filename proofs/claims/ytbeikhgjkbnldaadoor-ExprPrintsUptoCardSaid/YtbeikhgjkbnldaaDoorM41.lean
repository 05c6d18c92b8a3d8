/- Many allocations, one behind the other. -/
import Derived.Test.YtbeikhgjkbnldaaDoorM01
import Derived.Test.YtbeikhgjkbnldaaDoorM37
import Derived.Test.YtbeikhgjkbnldaaDoorM40
import Derived.Deep.CutBlock
namespace Go.Proofs.YtbeikhgjkbnldaaDoor
open Go.ChangeShapes Go.WideShapes Go.ChangeAt Go.RowKit

def allocs : World → List Obj → World
  | w, [] => w
  | w, o :: r => allocs (w.alloc o) r
theorem allocs_below : ∀ (l : List Obj) (w : World) (B : Nat), B ≤ w.heap.size → Below B w (allocs w l)
  | [], w, B, h => Below.refl _ _
  | o :: r, w, B, h => ((Below.refl B w).alloc h o).trans (allocs_below r (w.alloc o) B (by simp; omega))
theorem allocs_size : ∀ (l : List Obj) (w : World), (allocs w l).heap.size = w.heap.size + l.length
  | [], w => by simp [allocs]
  | o :: r, w => by rw [allocs, allocs_size r (w.alloc o)]; simp; omega
theorem allocs_at : ∀ {l : List Obj} {w : World} {k : Nat} {o : Obj}, l[k]? = some o → (allocs w l).heap[w.heap.size + k]? = some o
  | [], w, k, o, h => by simp at h
  | x :: r, w, 0, o, h => by
    simp only [List.getElem?_cons_zero, Option.some.injEq] at h
    subst h
    refine ((allocs_below r (w.alloc x) (w.alloc x).heap.size (Nat.le_refl _)).block _ (by simp)).trans ?_
    exact heap_alloc_new w x
  | x :: r, w, k + 1, o, h => by
    simp only [List.getElem?_cons_succ] at h
    have h2 := allocs_at (w := w.alloc x) h
    rw [World.size_alloc] at h2
    rw [show w.heap.size + (k + 1) = w.heap.size + 1 + k from by omega]
    exact h2
theorem allocs_lt {l : List Obj} {w : World} {k : Nat} {o : Obj} (h : l[k]? = some o) : w.heap.size + k < (allocs w l).heap.size := by
  rw [allocs_size]
  have := (List.getElem?_eq_some_iff.1 h).1
  omega
theorem row_one1 {α : Type} {B : Nat} {g : Nat} {k : Nat} {R : Nat → Nat → α → Prop} {x : α} (hg : g < B) (h : R g 0 x) : Row B (some ⟨g, 0, none⟩) k R [x] :=
  ⟨by simp, .inr ⟨g, 0, rfl, hg, fun i hi => by
    obtain rfl : i = 0 := by simp at hi; omega
    simpa using h⟩⟩
end Go.Proofs.YtbeikhgjkbnldaaDoor
/- Layer 14's examples hold. -/
namespace Go.Proofs.YtbeikhgjkbnldaaDoor
open Go.ChangeShapes Go.WideShapes Go.ChangeAt Go.RowKit
set_option linter.unusedVariables false
set_option linter.unusedSimpArgs false

def exV (n : Int) : Value := .agg #[.int .i64 1, .int .i64 n, .int .i64 (-1), .int .i64 (-1), .int .i64 (-1), .int .i64 0, .int .i64 0, .int .i64 0, .int .i64 0, .slice none 0 0, .slice none 0 0, .slice none 0 0]
def exO (n : Int) : Obj := .cells #[.int .i64 1, .int .i64 n, .int .i64 (-1), .int .i64 (-1), .int .i64 (-1), .int .i64 0, .int .i64 0, .int .i64 0, .int .i64 0, .slice none 0 0, .slice none 0 0, .slice none 0 0] 47
set_option maxRecDepth 100000 in
theorem numC (n : Int) (w : World) : Calls Tryd.prog 11 #[.int .i64 n] w fun e w' => e = .returned (exV n) ∧ w' = w.alloc (exO n) := by
  go_enter Tryd.func11, Tryd.ntmps11
  go_wp2
  exact bodyPost_ret (v := exV n) (by simp [exV, results, Tryd.results11, go_sem]) rfl ⟨rfl, rfl⟩

def shC0 : Array Value := #[.int .i64 8, .bool false, .int .i64 8, .bool false, .int .i64 8, .bool false]
def shC1 : Array Value := #[.int .i64 4, .int .i64 5, .int .i64 6]
def shC2 : Array Value := #[.slice none 0 0, .slice none 0 0, .bool false, .bool false, .bool false, .bool false, .bool false]
def shC3 (p2 : Nat) : Array Value := #[.string ⟨#[]⟩, .int .i64 0, .slice none 0 0, .slice none 0 0, .slice (some ⟨p2, 0, none⟩) 1 1, .int .i64 0, .int .i64 0, .int .i64 0, .int .i64 1, .int .i64 (-1)]
def shC6 : Array Value := #[.int .i64 0, .int .i64 3, .int .i64 1]
def shC11 : Array Value := #[.int .i64 7, .int .i64 3, .int .i64 1]
def shC12 (p6 : Nat) (p11 : Nat) : Array Value := #[.int .i64 1, .int .i64 2, .int .i64 (-1), .int .i64 (-1), .int .i64 (-1), .int .i64 0, .int .i64 0, .int .i64 0, .int .i64 0, .slice none 0 0, .slice none 0 0, .slice none 0 0, .int .i64 2, .int .i64 0, .int .i64 (-1), .int .i64 (-1), .int .i64 (-1), .int .i64 0, .int .i64 0, .int .i64 (-1), .int .i64 (-1), .slice (some ⟨p6, 0, none⟩) 1 1, .slice none 0 0, .slice none 0 0, .int .i64 1, .int .i64 7, .int .i64 (-1), .int .i64 (-1), .int .i64 (-1), .int .i64 0, .int .i64 0, .int .i64 0, .int .i64 0, .slice none 0 0, .slice none 0 0, .slice none 0 0, .int .i64 1, .int .i64 0, .int .i64 (-1), .int .i64 (-1), .int .i64 (-1), .int .i64 0, .int .i64 0, .int .i64 0, .int .i64 0, .slice none 0 0, .slice none 0 0, .slice none 0 0, .int .i64 7, .int .i64 0, .int .i64 2, .int .i64 3, .int .i64 (-1), .int .i64 0, .int .i64 0, .int .i64 0, .int .i64 0, .slice none 0 0, .slice none 0 0, .slice none 0 0, .int .i64 1, .int .i64 0, .int .i64 (-1), .int .i64 (-1), .int .i64 (-1), .int .i64 0, .int .i64 0, .int .i64 0, .int .i64 0, .slice none 0 0, .slice none 0 0, .slice none 0 0, .int .i64 22, .int .i64 0, .int .i64 5, .int .i64 4, .int .i64 (-1), .int .i64 0, .int .i64 0, .int .i64 0, .int .i64 0, .slice none 0 0, .slice none 0 0, .slice none 0 0, .int .i64 1, .int .i64 3, .int .i64 (-1), .int .i64 (-1), .int .i64 (-1), .int .i64 0, .int .i64 0, .int .i64 0, .int .i64 0, .slice none 0 0, .slice none 0 0, .slice none 0 0, .int .i64 2, .int .i64 0, .int .i64 (-1), .int .i64 (-1), .int .i64 (-1), .int .i64 0, .int .i64 0, .int .i64 (-1), .int .i64 (-1), .slice (some ⟨p11, 0, none⟩) 1 1, .slice none 0 0, .slice none 0 0]
def shC13 : Array Value := #[.int .i64 4, .int .i64 5, .int .i64 6]
def shC4 (p0 p1 p3 : Nat) (ev : Value) : Array Value := #[.slice (some ⟨p0, 0, none⟩) 3 3, .slice (some ⟨p1, 0, none⟩) 3 3, .slice none 0 0, .slice none 0 0, .slice (some ⟨p3, 0, none⟩) 1 1, .int .i64 (-1), ev]
def shH (p0 p1 p3 p12 : Nat) : MH := ⟨some ⟨p0, 0, none⟩, 3, some ⟨p1, 0, none⟩, 3, none, 0, none, 0, some ⟨p3, 0, none⟩, 1, some ⟨p12, 0, none⟩, 9⟩
def shHS (p13 : Nat) : SH := ⟨some ⟨p13, 0, none⟩, 3, none, 0, none, 0⟩
set_option maxRecDepth 100000 in
theorem sh_ed {W : World} {p0 p1 p2 p3 p6 p11 p12 p13 : Nat} (h0 : W.heap[p0]? = some (.cells shC0 56 (0, 0))) (h1 : W.heap[p1]? = some (.cells shC1 2 (0, 0))) (h2 : W.heap[p2]? = some (.cells shC2 60 (0, 0))) (h3 : W.heap[p3]? = some (.cells (shC3 p2) 63 (0, 0))) (h6 : W.heap[p6]? = some (.cells shC6 66 (0, 0))) (h11 : W.heap[p11]? = some (.cells shC11 66 (0, 0))) (h12 : W.heap[p12]? = some (.cells (shC12 p6 p11) 47 (0, 0))) (h13 : W.heap[p13]? = some (.cells shC13 2 (0, 0))) : ED W.heap.size W (shH p0 p1 p3 p12) (shHS p13) none shownE := by
  have c0 : ∀ (i : Nat) (v : Value), shC0[i]? = some v → W.cell? ⟨p0, i, none⟩ = some v := fun i v hv => (cell_of_row _ _ i _ _ _ h0).trans hv
  have l0 := lt_of_block h0
  have c1 : ∀ (i : Nat) (v : Value), shC1[i]? = some v → W.cell? ⟨p1, i, none⟩ = some v := fun i v hv => (cell_of_row _ _ i _ _ _ h1).trans hv
  have l1 := lt_of_block h1
  have c2 : ∀ (i : Nat) (v : Value), shC2[i]? = some v → W.cell? ⟨p2, i, none⟩ = some v := fun i v hv => (cell_of_row _ _ i _ _ _ h2).trans hv
  have l2 := lt_of_block h2
  have c3 : ∀ (i : Nat) (v : Value), (shC3 p2)[i]? = some v → W.cell? ⟨p3, i, none⟩ = some v := fun i v hv => (cell_of_row _ _ i _ _ _ h3).trans hv
  have l3 := lt_of_block h3
  have c6 : ∀ (i : Nat) (v : Value), shC6[i]? = some v → W.cell? ⟨p6, i, none⟩ = some v := fun i v hv => (cell_of_row _ _ i _ _ _ h6).trans hv
  have l6 := lt_of_block h6
  have c11 : ∀ (i : Nat) (v : Value), shC11[i]? = some v → W.cell? ⟨p11, i, none⟩ = some v := fun i v hv => (cell_of_row _ _ i _ _ _ h11).trans hv
  have l11 := lt_of_block h11
  have c12 : ∀ (i : Nat) (v : Value), (shC12 p6 p11)[i]? = some v → W.cell? ⟨p12, i, none⟩ = some v := fun i v hv => (cell_of_row _ _ i _ _ _ h12).trans hv
  have l12 := lt_of_block h12
  have c13 : ∀ (i : Nat) (v : Value), shC13[i]? = some v → W.cell? ⟨p13, i, none⟩ = some v := fun i v hv => (cell_of_row _ _ i _ _ _ h13).trans hv
  have l13 := lt_of_block h13
  have nilS : ∀ {α : Type} (g a k : Nat) (R : Nat → Nat → α → Prop), W.cell? ⟨g, a, none⟩ = some (.slice none 0 0) → Sli W.heap.size W g a k R [] := fun g a k R hc => ⟨none, 0, hc, Row.nil _ _ _ _⟩
  have d1 : Sli W.heap.size W p12 (12 + 9) 3 (dimAt W) [⟨0, 3, 1⟩] := ⟨some ⟨p6, 0, none⟩, 1, c12 _ _ rfl, row_one1 l6 ⟨c6 _ _ rfl, c6 _ _ rfl, c6 _ _ rfl⟩⟩
  have d2 : Sli W.heap.size W p12 (96 + 9) 3 (dimAt W) [⟨7, 3, 1⟩] := ⟨some ⟨p11, 0, none⟩, 1, c12 _ _ rfl, row_one1 l11 ⟨c11 _ _ rfl, c11 _ _ rfl, c11 _ _ rfl⟩⟩
  have hl : locAt W.heap.size W p2 0 ⟨[], [], false, false, false, false, false⟩ := ⟨nilS _ _ _ _ (c2 _ _ rfl), nilS _ _ _ _ (c2 _ _ rfl), c2 _ _ rfl, c2 _ _ rfl, c2 _ _ rfl, c2 _ _ rfl, c2 _ _ rfl⟩
  have hp : procAt W.heap.size W p3 0 ⟨ByteArray.empty, 0, [], [], [⟨[], [], false, false, false, false, false⟩], 0, 0, 0, 1, -1⟩ := ⟨c3 _ _ rfl, c3 _ _ rfl, nilS _ _ _ _ (c3 _ _ rfl), nilS _ _ _ _ (c3 _ _ rfl), ⟨some ⟨p2, 0, none⟩, 1, c3 _ _ rfl, row_one1 l2 hl⟩, c3 _ _ rfl, c3 _ _ rfl, c3 _ _ rfl, c3 _ _ rfl, c3 _ _ rfl⟩
  refine ⟨⟨?_, ?_, Row.nil _ _ _ _, Row.nil _ _ _ _, ?_, ?_⟩, ⟨?_, Row.nil _ _ _ _, Row.nil _ _ _ _⟩, Row.nil _ _ _ _⟩
  · refine ⟨by decide, .inr ⟨p0, 0, rfl, l0, fun i hi => ?_⟩⟩
    have hi' : i = 0 ∨ i = 1 ∨ i = 2 := by
      have : i < 3 := hi
      omega
    rcases hi' with rfl | rfl | rfl
    all_goals exact ⟨c0 _ _ rfl, c0 _ _ rfl⟩
  · refine ⟨by decide, .inr ⟨p1, 0, rfl, l1, fun i hi => ?_⟩⟩
    have hi' : i = 0 ∨ i = 1 ∨ i = 2 := by
      have : i < 3 := hi
      omega
    rcases hi' with rfl | rfl | rfl
    all_goals exact c1 _ _ rfl
  · exact row_one1 l3 hp
  · refine ⟨by decide, .inr ⟨p12, 0, rfl, l12, fun i hi => ?_⟩⟩
    have hi' : i = 0 ∨ i = 1 ∨ i = 2 ∨ i = 3 ∨ i = 4 ∨ i = 5 ∨ i = 6 ∨ i = 7 ∨ i = 8 := by
      have : i < 9 := hi
      omega
    rcases hi' with rfl | rfl | rfl | rfl | rfl | rfl | rfl | rfl | rfl
    · exact ⟨c12 _ _ rfl, c12 _ _ rfl, c12 _ _ rfl, c12 _ _ rfl, c12 _ _ rfl, ⟨c12 _ _ rfl, c12 _ _ rfl, c12 _ _ rfl, c12 _ _ rfl, nilS _ _ _ _ (c12 _ _ rfl)⟩, nilS _ _ _ _ (c12 _ _ rfl), nilS _ _ _ _ (c12 _ _ rfl)⟩
    · exact ⟨c12 _ _ rfl, c12 _ _ rfl, c12 _ _ rfl, c12 _ _ rfl, c12 _ _ rfl, ⟨c12 _ _ rfl, c12 _ _ rfl, c12 _ _ rfl, c12 _ _ rfl, d1⟩, nilS _ _ _ _ (c12 _ _ rfl), nilS _ _ _ _ (c12 _ _ rfl)⟩
    · exact ⟨c12 _ _ rfl, c12 _ _ rfl, c12 _ _ rfl, c12 _ _ rfl, c12 _ _ rfl, ⟨c12 _ _ rfl, c12 _ _ rfl, c12 _ _ rfl, c12 _ _ rfl, nilS _ _ _ _ (c12 _ _ rfl)⟩, nilS _ _ _ _ (c12 _ _ rfl), nilS _ _ _ _ (c12 _ _ rfl)⟩
    · exact ⟨c12 _ _ rfl, c12 _ _ rfl, c12 _ _ rfl, c12 _ _ rfl, c12 _ _ rfl, ⟨c12 _ _ rfl, c12 _ _ rfl, c12 _ _ rfl, c12 _ _ rfl, nilS _ _ _ _ (c12 _ _ rfl)⟩, nilS _ _ _ _ (c12 _ _ rfl), nilS _ _ _ _ (c12 _ _ rfl)⟩
    · exact ⟨c12 _ _ rfl, c12 _ _ rfl, c12 _ _ rfl, c12 _ _ rfl, c12 _ _ rfl, ⟨c12 _ _ rfl, c12 _ _ rfl, c12 _ _ rfl, c12 _ _ rfl, nilS _ _ _ _ (c12 _ _ rfl)⟩, nilS _ _ _ _ (c12 _ _ rfl), nilS _ _ _ _ (c12 _ _ rfl)⟩
    · exact ⟨c12 _ _ rfl, c12 _ _ rfl, c12 _ _ rfl, c12 _ _ rfl, c12 _ _ rfl, ⟨c12 _ _ rfl, c12 _ _ rfl, c12 _ _ rfl, c12 _ _ rfl, nilS _ _ _ _ (c12 _ _ rfl)⟩, nilS _ _ _ _ (c12 _ _ rfl), nilS _ _ _ _ (c12 _ _ rfl)⟩
    · exact ⟨c12 _ _ rfl, c12 _ _ rfl, c12 _ _ rfl, c12 _ _ rfl, c12 _ _ rfl, ⟨c12 _ _ rfl, c12 _ _ rfl, c12 _ _ rfl, c12 _ _ rfl, nilS _ _ _ _ (c12 _ _ rfl)⟩, nilS _ _ _ _ (c12 _ _ rfl), nilS _ _ _ _ (c12 _ _ rfl)⟩
    · exact ⟨c12 _ _ rfl, c12 _ _ rfl, c12 _ _ rfl, c12 _ _ rfl, c12 _ _ rfl, ⟨c12 _ _ rfl, c12 _ _ rfl, c12 _ _ rfl, c12 _ _ rfl, nilS _ _ _ _ (c12 _ _ rfl)⟩, nilS _ _ _ _ (c12 _ _ rfl), nilS _ _ _ _ (c12 _ _ rfl)⟩
    · exact ⟨c12 _ _ rfl, c12 _ _ rfl, c12 _ _ rfl, c12 _ _ rfl, c12 _ _ rfl, ⟨c12 _ _ rfl, c12 _ _ rfl, c12 _ _ rfl, c12 _ _ rfl, d2⟩, nilS _ _ _ _ (c12 _ _ rfl), nilS _ _ _ _ (c12 _ _ rfl)⟩
  · refine ⟨by decide, .inr ⟨p13, 0, rfl, l13, fun i hi => ?_⟩⟩
    have hi' : i = 0 ∨ i = 1 ∨ i = 2 := by
      have : i < 3 := hi
      omega
    rcases hi' with rfl | rfl | rfl
    all_goals exact c13 _ _ rfl
end Go.Proofs.YtbeikhgjkbnldaaDoor
