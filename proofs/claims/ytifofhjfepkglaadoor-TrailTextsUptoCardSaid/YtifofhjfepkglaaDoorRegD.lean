/- The drawn regions of the program's reading, as its walk meets them. -/
import Derived.Test.YtifofhjfepkglaaDoorRegA
import Derived.Test.YtifofhjfepkglaaDoorRegB
namespace Go.Proofs.YtifofhjfepkglaaDoor
open Go.ChangeShapes Go.WideShapes Go.ChangeAt Go.RowKit
set_option linter.unusedVariables false
set_option linter.unusedSimpArgs false

def prF (s : List UInt8) (rb fb nx : Nat) (du : Bool) (X : Nat → Value) : Act := { tmps := #[.string ⟨s.toArray⟩, undef, .pointer (some ⟨rb, 0, none⟩), .int .i64 0, .int .i64 0, .pointer (some ⟨fb, 0, none⟩), X 6, .int .i64 nx, .bool du, X 9, X 10, X 11, X 12, X 13, X 14, X 15, X 16, X 17, X 18, X 19, X 20, X 21, X 22, X 23, X 24, X 25, X 26, X 27, X 28, X 29, X 30, X 31, X 32, X 33, X 34, X 35, X 36, X 37, X 38, X 39, X 40, X 41, X 42, X 43, X 44, X 45, X 46, X 47, X 48, X 49, X 50, X 51, X 52, X 53, X 54, X 55, X 56, X 57, X 58, X 59, X 60, X 61, X 62, X 63, X 64, X 65, X 66, X 67, X 68, X 69, X 70, X 71, X 72, X 73, X 74, X 75, X 76, X 77, X 78, X 79, X 80, X 81, X 82, X 83, X 84, X 85, X 86, X 87, X 88, X 89, X 90, X 91, X 92, X 93, X 94, X 95, X 96, X 97, X 98, X 99, X 100, X 101, X 102, X 103, X 104, X 105, X 106, X 107, X 108, X 109, X 110, X 111, X 112, X 113, X 114, X 115, X 116, X 117, X 118, X 119, X 120, X 121, X 122, X 123, X 124, X 125, X 126, X 127, X 128, X 129, X 130, X 131, X 132], defers := [] }
theorem prF_of {s : List UInt8} {rb fb nx : Nat} {du : Bool} (t : Array Value) (h : t = (prF s rb fb nx du (fun i => t.getD i undef)).tmps) : ∃ X, ({ tmps := t, defers := [] } : Act) = prF s rb fb nx du X :=
  ⟨fun i => t.getD i undef, by rw [show prF s rb fb nx du (fun i => t.getD i undef) = { tmps := (prF s rb fb nx du (fun i => t.getD i undef)).tmps, defers := [] } from rfl, ← h]⟩
def prG (s : List UInt8) (rb fb p : Nat) (X : Nat → Value) : Act := { tmps := #[.string ⟨s.toArray⟩, undef, .pointer (some ⟨rb, 0, none⟩), .int .i64 0, .int .i64 0, .pointer (some ⟨fb, 0, none⟩), .int .i64 p, X 7, X 8, X 9, X 10, X 11, X 12, X 13, X 14, X 15, X 16, X 17, X 18, X 19, X 20, X 21, X 22, X 23, X 24, X 25, X 26, X 27, X 28, X 29, X 30, X 31, X 32, X 33, X 34, X 35, X 36, X 37, X 38, X 39, X 40, X 41, X 42, X 43, X 44, X 45, X 46, X 47, X 48, X 49, X 50, X 51, X 52, X 53, X 54, X 55, X 56, X 57, X 58, X 59, X 60, X 61, X 62, X 63, X 64, X 65, X 66, X 67, X 68, X 69, X 70, X 71, X 72, X 73, X 74, X 75, X 76, X 77, X 78, X 79, X 80, X 81, X 82, X 83, X 84, X 85, X 86, X 87, X 88, X 89, X 90, X 91, X 92, X 93, X 94, X 95, X 96, X 97, X 98, X 99, X 100, X 101, X 102, X 103, X 104, X 105, X 106, X 107, X 108, X 109, X 110, X 111, X 112, X 113, X 114, X 115, X 116, X 117, X 118, X 119, X 120, X 121, X 122, X 123, X 124, X 125, X 126, X 127, X 128, X 129, X 130, X 131, X 132], defers := [] }
theorem prG_of {s : List UInt8} {rb fb p : Nat} (t : Array Value) (h : t = (prG s rb fb p (fun i => t.getD i undef)).tmps) : ∃ X, ({ tmps := t, defers := [] } : Act) = prG s rb fb p X :=
  ⟨fun i => t.getD i undef, by rw [show prG s rb fb p (fun i => t.getD i undef) = { tmps := (prG s rb fb p (fun i => t.getD i undef)).tmps, defers := [] } from rfl, ← h]⟩
def prI (s : List UInt8) (rb fb nx : Nat) (du : Bool) (sl : Value) (X : Nat → Value) : Act := { tmps := #[.string ⟨s.toArray⟩, undef, .pointer (some ⟨rb, 0, none⟩), .int .i64 0, .int .i64 0, .pointer (some ⟨fb, 0, none⟩), X 6, .int .i64 nx, .bool du, X 9, X 10, sl, X 12, X 13, X 14, X 15, X 16, X 17, X 18, X 19, X 20, X 21, X 22, X 23, X 24, X 25, X 26, X 27, X 28, X 29, X 30, X 31, X 32, X 33, X 34, X 35, X 36, X 37, X 38, X 39, X 40, X 41, X 42, X 43, X 44, X 45, X 46, X 47, X 48, X 49, X 50, X 51, X 52, X 53, X 54, X 55, X 56, X 57, X 58, X 59, X 60, X 61, X 62, X 63, X 64, X 65, X 66, X 67, X 68, X 69, X 70, X 71, X 72, X 73, X 74, X 75, X 76, X 77, X 78, X 79, X 80, X 81, X 82, X 83, X 84, X 85, X 86, X 87, X 88, X 89, X 90, X 91, X 92, X 93, X 94, X 95, X 96, X 97, X 98, X 99, X 100, X 101, X 102, X 103, X 104, X 105, X 106, X 107, X 108, X 109, X 110, X 111, X 112, X 113, X 114, X 115, X 116, X 117, X 118, X 119, X 120, X 121, X 122, X 123, X 124, X 125, X 126, X 127, X 128, X 129, X 130, X 131, X 132], defers := [] }
theorem prI_of {s : List UInt8} {rb fb nx : Nat} {du : Bool} {sl : Value} (t : Array Value) (h : t = (prI s rb fb nx du sl (fun i => t.getD i undef)).tmps) : ({ tmps := t, defers := [] } : Act) = prI s rb fb nx du sl (fun i => t.getD i undef) := by
  rw [show prI s rb fb nx du sl (fun i => t.getD i undef) = { tmps := (prI s rb fb nx du sl (fun i => t.getD i undef)).tmps, defers := [] } from rfl, ← h]
theorem prF_go {Q : Exit → Act → World → Prop} {W : World} {s : List UInt8} {rb fb nx : Nat} {du : Bool} (t : Array Value) (h : t = (prF s rb fb nx du (fun i => t.getD i undef)).tmps) (hQ : ∀ X', Q .normal (prF s rb fb nx du X') W) : Q .normal { tmps := t, defers := [] } W := by
  obtain ⟨X', hX⟩ := prF_of (s := s) (rb := rb) (fb := fb) (nx := nx) (du := du) t h
  rw [hX]
  exact hQ X'
/-- Slots 0 to 10 of a frame, and the row. -/
def slF (s : List UInt8) (rb fb nx : Nat) (du : Bool) (X : Nat → Value) (i : Nat) : Value :=
  if i = 0 then .string ⟨s.toArray⟩ else if i = 1 then undef else if i = 2 then .pointer (some ⟨rb, 0, none⟩) else if i = 3 then .int .i64 0 else if i = 4 then .int .i64 0 else if i = 7 then .int .i64 nx else if i = 8 then .bool du else X i

set_option maxHeartbeats 4000000 in
set_option maxRecDepth 1000000 in
theorem reg20P {Q : Exit → Act → World → Prop} {s : List UInt8} {rb fb nx g cap : Nat} {du : Bool} (t : Array Value) {W : World} {k wh er pl ss sp a0 a1 a2 a3 a6 a7 : Int}
    (ht : t = (prI s rb fb nx du (.slice (some ⟨g, 0, none⟩) 6 cap) (fun i => t.getD i undef)).tmps) (hgne : g ≠ fb) (hR : W.cell? ⟨g, 0, none⟩ = some (.int .i64 k) ∧ W.cell? ⟨g, 1, none⟩ = some (.int .i64 wh) ∧ W.cell? ⟨g, 2, none⟩ = some (.int .i64 er) ∧ W.cell? ⟨g, 3, none⟩ = some (.int .i64 pl) ∧ W.cell? ⟨g, 4, none⟩ = some (.int .i64 ss) ∧ W.cell? ⟨g, 5, none⟩ = some (.int .i64 sp))
    (x0 : W.cell? ⟨fb, 0, none⟩ = some (.int .i64 a0)) (x1 : W.cell? ⟨fb, 1, none⟩ = some (.int .i64 a1)) (x2 : W.cell? ⟨fb, 2, none⟩ = some (.int .i64 a2)) (x3 : W.cell? ⟨fb, 3, none⟩ = some (.int .i64 a3)) (x6 : W.cell? ⟨fb, 6, none⟩ = some (.int .i64 a6)) (x7 : W.cell? ⟨fb, 7, none⟩ = some (.int .i64 a7))
    (yf : ∀ i, W.frozen? ⟨fb, i, none⟩ = false)
    (hQ : ∀ X', Q .normal (prF s rb fb nx du X') ((((((W.setCell ⟨fb, 0, none⟩ (.int .i64 k)).setCell ⟨fb, 1, none⟩ (.int .i64 wh)).setCell ⟨fb, 2, none⟩ (.int .i64 er)).setCell ⟨fb, 3, none⟩ (.int .i64 pl)).setCell ⟨fb, 6, none⟩ (.int .i64 ss)).setCell ⟨fb, 7, none⟩ (.int .i64 sp)).drew) :
    (Code.region 20 ops20.toArray true).wp Tryd.prog Q { tmps := t, defers := [] } W := by
  rw [prI_of t ht]
  refine reg20 Q fb g cap (slF s rb fb nx du (fun i => t.getD i undef)) k wh er pl ss sp a0 a1 a2 a3 a6 a7 W hgne hR x0 x1 x2 x3 x6 x7 (yf 0) (yf 1) (yf 2) (yf 3) (yf 6) (yf 7) ?_
  refine prF_go (s := s) (rb := rb) (fb := fb) (nx := nx) (du := du) _ ?_ hQ
  rfl

set_option maxHeartbeats 4000000 in
set_option maxRecDepth 1000000 in
theorem reg15P {Q : Exit → Act → World → Prop} {s : List UInt8} {rb fb nx g cap n B : Nat} {du : Bool} (t : Array Value) {W : World} {m : MV} {tv : Value} {xs : List Value}
    (ht : t = (prI s rb fb nx du (.slice (some ⟨g, 0, none⟩) 7 cap) (fun i => t.getD i undef)).tmps)
    (hgf : g ≠ fb) (hg : g < W.heap.size) (hfb : fb < W.heap.size) (hfB : fb < B) (hBW : B ≤ W.heap.size)
    (hR : pushP.S7 g m W) (hown : W.ownsRow B 47 7 tv n xs) (hno : tv.ownBlock ≠ some g) (hn : n ≤ 400000000)
    (x4 : W.cell? ⟨fb, 4, none⟩ = some tv) (y4 : W.frozen? ⟨fb, 4, none⟩ = false)
    (hQ : ∀ v2 W2, W2.ownsRow B 47 7 v2 (n + 1) (xs ++ mvL' m) → (W.alloc (.cells #[.int .i64 m.a, .int .i64 m.b, .int .i64 m.c, .int .i64 m.d, .int .i64 m.e, .int .i64 m.f, .int .i64 m.g] 47)).drew.grownBy W2 tv.ownBlock → ∀ W3, W3 = W2.setCell ⟨fb, 4, none⟩ v2 → ∀ X', Q .normal (prF s rb fb nx du X') W3) :
    (Code.region 15 pushP.ops.toArray true).wp Tryd.prog Q { tmps := t, defers := [] } W := by
  rw [prI_of t ht]
  refine pushP.reg Q fb g cap n B (slF s rb fb nx du (fun i => t.getD i undef)) m tv xs W hgf hg hfb hfB hBW hR hown hno hn x4 y4 fun v2 W2 h1 h2 W3 h3 => ?_
  refine prF_go (s := s) (rb := rb) (fb := fb) (nx := nx) (du := du) _ ?_ (hQ v2 W2 h1 h2 W3 h3)
  rfl
end Go.Proofs.YtifofhjfepkglaaDoor
