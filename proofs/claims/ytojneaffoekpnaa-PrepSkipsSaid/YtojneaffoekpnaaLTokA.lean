/- For the two contracts of Tokens: a row of tokens in memory of the call's own. -/
import Derived.Test.YtojneaffoekpnaaLLx
import Derived.Test.YtojneaffoekpnaaLSkip
import Derived.OwnWalk
import Derived.Laws.AppendOwn
import Derived.Laws.OwnMore
namespace Go.Proofs.Ytojneaffoekpnaa.lx
set_option linter.unusedVariables false
set_option linter.unusedSimpArgs false
open Go.ChangeShapes Go.WideShapes Go.ChangeAt Go.RowKit

def tkCells (t : TK) : List Value := [.int .i64 t.kind, .int .i64 t.pos, .int .i64 t.line, .string t.text, .int .i64 t.num]
def cellsOf (ts : List TK) : List Value := ts.flatMap tkCells
theorem cellsOf_snoc (ts : List TK) (t : TK) : cellsOf (ts ++ [t]) = cellsOf ts ++ tkCells t := by simp [cellsOf]

theorem info27 : (Try.prog.info? 25).map (fun i => (i.zero, i.size, i.bytes)) = some (some zeroTok, 5, 48) := by kernel_rfl

/-- A row of tokens that the call owns; all that was there when it began has stayed. -/
structure Row (w0 w : World) (v : Value) (acc : List TK) : Prop where
  own : w.ownsRow w0.heap.size 25 5 v acc.length (cellsOf acc)
  bel : Below w0.heap.size w0 w
section
variable {w0 w w1 w2 : World} {v v' : Value} {acc : List TK}
theorem Row.nil_ (w0 : World) : Row w0 w0 (.slice none 0 0) [] := ⟨World.ownsRow_nil _ _ _ _, Below.refl _ _⟩
theorem Row.below (h : Row w0 w v acc) (hb : Below w.heap.size w w1) : Row w0 w1 v acc := by
  refine ⟨?_, h.bel.trans (hb.mono h.bel.size)⟩
  refine h.own.kept (row := none) ⟨hb.os, hb.tape, hb.output, hb.size, fun i hi _ => hb.block i hi⟩ ?_
  cases hv : v.ownBlock with
  | none => exact .inl rfl
  | some g => exact .inr (by simp)
theorem Row.drew (h : Row w0 w v acc) : Row w0 w.drew v acc := h.below (Below.refl _ _).drew
theorem Row.alloc (h : Row w0 w v acc) (o : Obj) : Row w0 (w.alloc o) v acc := h.below ((Below.refl _ _).alloc (Nat.le_refl _) o)
theorem Row.push (h : Row w0 w v acc) (t : TK) (hg : w.grownBy w2 v.ownBlock) (hown : w2.ownsRow w0.heap.size 25 5 v' (acc.length + 1) (cellsOf acc ++ tkCells t)) : Row w0 w2 v' (acc ++ [t]) := by
  refine ⟨?_, h.bel.grown hg h.bel.size fun k hk => (h.own.lt k hk).1⟩
  rw [cellsOf_snoc, List.length_append]
  exact hown
end
/-- The cells of a new row of one token. -/
theorem new_cells (w : World) (a b c d e : Value) (j : Nat) (u : Value) (h : [a, b, c, d, e][j]? = some u) : (w.alloc (.cells #[a, b, c, d, e] 25)).cell? ((⟨w.heap.size, 0, none⟩ : Addr).add j) = some u := by
  have h1 := cell_of_row _ _ j _ _ _ (heap_alloc_new w (.cells #[a, b, c, d, e] 25))
  have : (⟨w.heap.size, 0, none⟩ : Addr).add j = ⟨w.heap.size, j, none⟩ := by
    unfold Addr.add
    split
    · rename_i h; subst h; rfl
    · rename_i h; rw [Nat.zero_add]
  rw [this, h1]
  simpa using h

/-- What Tokens comes to. -/
def ToksP (w : World) (ts : List TK) (e p : Nat) (x : Ending) (w' : World) : Prop :=
  ∃ v, x = .returned (.tuple #[v, .int .i64 e, .int .i64 p]) ∧ Below w.heap.size w w' ∧ (e = 0 → Row w w' v ts) ∧ (e ≠ 0 → v = .slice none 0 0)

theorem ToksP.bad {w w' : World} {ts : List TK} {e p : Nat} {x : Ending} (he : e ≠ 0) (hx : x = .returned (.tuple #[.slice none 0 0, .int .i64 e, .int .i64 p])) (hb : Below w.heap.size w w') : ToksP w ts e p x w' :=
  ⟨_, hx, hb, fun h => absurd h he, fun _ => rfl⟩
theorem ToksP.good {w w' : World} {ts : List TK} {v : Value} {x : Ending} (hx : x = .returned (.tuple #[v, .int .i64 0, .int .i64 0])) (hr : Row w w' v ts) : ToksP w ts 0 0 x w' :=
  ⟨v, hx, hr.bel, fun _ => hr, fun h => absurd rfl h⟩
end Go.Proofs.Ytojneaffoekpnaa.lx
