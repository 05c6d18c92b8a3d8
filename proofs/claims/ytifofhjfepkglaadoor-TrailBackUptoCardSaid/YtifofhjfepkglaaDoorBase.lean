/- Numbers and moves in memory; what the library's variables hold. -/
import Derived.Test.YtifofhjfepkglaaDoorRows
import Derived.Test.YtifofhjfepkglaaDoorShelf
import Derived.Test.YtifofhjfepkglaaDoorSpec
import Derived.WalkKit
import Derived.ProofKit
import Derived.Below
import Derived.Outline
import Derived.BigQuiet
import Derived.Deep.QuietTactic
import Derived.LoopN
import Derived.Lib.Hide
import Derived.Laws.Rows
import Derived.Deep.Cut
import Derived.OwnWalk
import Derived.RegionTactic
import Derived.ChangeAlike
namespace Go.Proofs.YtifofhjfepkglaaDoor
open Go.ChangeShapes Go.WideShapes Go.ChangeAt Go.RowKit
set_option linter.unusedVariables false
set_option linter.unusedSimpArgs false

def intOf : Value → Int
  | .int _ q => q
  | _ => 0
theorem bdrew {B : Nat} {a w : World} (h : Below B a w) (n : Nat) : Below B a (w.drewN n) := ⟨h.os, h.tape, h.output, h.size, h.block⟩
/-- A text. -/
def strV (l : List UInt8) : Value := .string ⟨l.toArray⟩
theorem bytes_of (s : ByteArray) : s = ⟨s.data.toList.toArray⟩ := by cases s; simp
theorem str_add (a b : List UInt8) : (⟨a.toArray⟩ : ByteArray) ++ ⟨b.toArray⟩ = ⟨(a ++ b).toArray⟩ := by
  apply ByteArray.ext
  simp

/-- A row of numbers in memory. -/
def Ints (w : World) (g off : Nat) (l : List Int) : Prop := g < w.heap.size ∧ ∀ i (h : i < l.length), w.cell? ⟨g, off + i, none⟩ = some (.int .i64 l[i])
theorem Ints.below {w w' : World} {g off : Nat} {l : List Int} (h : Ints w g off l) (hb : Below w.heap.size w w') : Ints w' g off l :=
  ⟨Nat.lt_of_lt_of_le h.1 hb.size, fun i hi => (hb.cell h.1).trans (h.2 i hi)⟩
end Go.Proofs.YtifofhjfepkglaaDoor
