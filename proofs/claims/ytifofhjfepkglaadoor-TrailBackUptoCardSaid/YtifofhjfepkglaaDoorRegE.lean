/- The drawn region of the document's reading, as its walk meets it. -/
import Derived.Test.YtifofhjfepkglaaDoorRegC
namespace Go.Proofs.YtifofhjfepkglaaDoor
open Go.ChangeShapes Go.WideShapes Go.ChangeAt Go.RowKit
set_option linter.unusedVariables false
set_option linter.unusedSimpArgs false

def rF (fb g cap : Nat) (z0 z1 z2 z3 z4 z6 z7 z8 z9 z10 z11 z12 z14 z15 : Value) (X : Nat → Value) : Act := { tmps := #[z0, z1, z2, z3, z4, .pointer (some ⟨fb, 0, none⟩), z6, z7, z8, z9, z10, z11, z12, .slice (some ⟨g, 0, none⟩) 7 cap, z14, z15, X 16, X 17, X 18, X 19, X 20, X 21, X 22, X 23, X 24, X 25, X 26, X 27, X 28, X 29, X 30, X 31, X 32, X 33, X 34, X 35, X 36, X 37, X 38, X 39, X 40, X 41, X 42, X 43, X 44, X 45, X 46, X 47, X 48, X 49, X 50, X 51, X 52, X 53, X 54, X 55, X 56, X 57, X 58, X 59, X 60, X 61, X 62, X 63, X 64, X 65, X 66, X 67, X 68, X 69, X 70, X 71, X 72, X 73, X 74, X 75, X 76, X 77, X 78, X 79, X 80, X 81, X 82, X 83, X 84, X 85, X 86, X 87, X 88, X 89, X 90, X 91, X 92, X 93, X 94, X 95, X 96, X 97, X 98, X 99, X 100, X 101, X 102, X 103, X 104, X 105, X 106, X 107, X 108, X 109, X 110, X 111, X 112, X 113, X 114, X 115, X 116, X 117, X 118, X 119, X 120, X 121, X 122, X 123, X 124, X 125, X 126, X 127, X 128, X 129, X 130, X 131, X 132, X 133, X 134, X 135, X 136, undef, undef, undef, undef, undef, undef, undef, undef, undef, undef, undef, undef, undef, undef], defers := [] }
theorem rF_of {fb g cap : Nat} {z0 z1 z2 z3 z4 z6 z7 z8 z9 z10 z11 z12 z14 z15 : Value} (t : Array Value) (h : t = (rF fb g cap z0 z1 z2 z3 z4 z6 z7 z8 z9 z10 z11 z12 z14 z15 (fun i => t.getD i undef)).tmps) : ({ tmps := t, defers := [] } : Act) = rF fb g cap z0 z1 z2 z3 z4 z6 z7 z8 z9 z10 z11 z12 z14 z15 (fun i => t.getD i undef) := by
  rw [show rF fb g cap z0 z1 z2 z3 z4 z6 z7 z8 z9 z10 z11 z12 z14 z15 (fun i => t.getD i undef) = { tmps := (rF fb g cap z0 z1 z2 z3 z4 z6 z7 z8 z9 z10 z11 z12 z14 z15 (fun i => t.getD i undef)).tmps, defers := [] } from rfl, ← h]
theorem rF_go {Q : Exit → Act → World → Prop} {W : World} {fb g cap : Nat} {z0 z1 z2 z3 z4 z6 z7 z8 z9 z10 z11 z12 z14 z15 : Value} (t : Array Value) (h : t = (rF fb g cap z0 z1 z2 z3 z4 z6 z7 z8 z9 z10 z11 z12 z14 z15 (fun i => t.getD i undef)).tmps) (hQ : ∀ X', Q .normal (rF fb g cap z0 z1 z2 z3 z4 z6 z7 z8 z9 z10 z11 z12 z14 z15 X') W) : Q .normal { tmps := t, defers := [] } W := by
  rw [rF_of t h]
  exact hQ _
def slR (z0 z1 z2 z3 z4 z6 z7 z8 z9 z10 z11 z12 z14 z15 : Value) (X : Nat → Value) (i : Nat) : Value :=
  if i = 0 then z0 else
  if i = 1 then z1 else
  if i = 2 then z2 else
  if i = 3 then z3 else
  if i = 4 then z4 else
  if i = 6 then z6 else
  if i = 7 then z7 else
  if i = 8 then z8 else
  if i = 9 then z9 else
  if i = 10 then z10 else
  if i = 11 then z11 else
  if i = 12 then z12 else
  if i = 14 then z14 else
  if i = 15 then z15 else if 137 ≤ i then undef else X i

set_option maxHeartbeats 4000000 in
set_option maxRecDepth 1000000 in
theorem reg24R {Q : Exit → Act → World → Prop} {fb g cap n B : Nat} {z0 z1 z2 z3 z4 z6 z7 z8 z9 z10 z11 z12 z14 z15 : Value} (t : Array Value) {W : World} {m : MV} {tv : Value} {xs : List Value}
    (ht : t = (rF fb g cap z0 z1 z2 z3 z4 z6 z7 z8 z9 z10 z11 z12 z14 z15 (fun i => t.getD i undef)).tmps)
    (hgf : g ≠ fb) (hg : g < W.heap.size) (hfb : fb < W.heap.size) (hfB : fb < B) (hBW : B ≤ W.heap.size)
    (hR : pushR.S7 g m W) (hown : W.ownsRow B 47 7 tv n xs) (hno : tv.ownBlock ≠ some g) (hn : n ≤ 400000000)
    (x4 : W.cell? ⟨fb, 4, none⟩ = some tv) (y4 : W.frozen? ⟨fb, 4, none⟩ = false)
    (hQ : ∀ v2 W2, W2.ownsRow B 47 7 v2 (n + 1) (xs ++ mvL' m) → (W.alloc (.cells #[.int .i64 m.a, .int .i64 m.b, .int .i64 m.c, .int .i64 m.d, .int .i64 m.e, .int .i64 m.f, .int .i64 m.g] 47)).drew.grownBy W2 tv.ownBlock → ∀ W3, W3 = W2.setCell ⟨fb, 4, none⟩ v2 → ∀ X', Q .normal (rF fb g cap z0 z1 z2 z3 z4 z6 z7 z8 z9 z10 z11 z12 z14 z15 X') W3) :
    (Code.region 24 pushR.ops.toArray true).wp Tryd.prog Q { tmps := t, defers := [] } W := by
  rw [rF_of t ht]
  refine pushR.reg Q fb g cap n B (slR z0 z1 z2 z3 z4 z6 z7 z8 z9 z10 z11 z12 z14 z15 (fun i => t.getD i undef)) m tv xs W hgf hg hfb hfB hBW hR hown hno hn x4 y4 fun v2 W2 h1 h2 W3 h3 => ?_
  refine rF_go (z0 := z0) (z1 := z1) (z2 := z2) (z3 := z3) (z4 := z4) (z6 := z6) (z7 := z7) (z8 := z8) (z9 := z9) (z10 := z10) (z11 := z11) (z12 := z12) (z14 := z14) (z15 := z15) (fb := fb) (g := g) (cap := cap) _ ?_ (hQ v2 W2 h1 h2 W3 h3)
  rfl
end Go.Proofs.YtifofhjfepkglaaDoor
