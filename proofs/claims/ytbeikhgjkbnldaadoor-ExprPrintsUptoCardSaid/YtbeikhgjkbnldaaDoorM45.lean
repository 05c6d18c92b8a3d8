/- What the row's list gives, and a world in which it is met. -/
import Derived.Test.YtbeikhgjkbnldaaDoorM39
import Derived.Test.YtbeikhgjkbnldaaDoorCards
import Derived.Test.YtbeikhgjkbnldaaDoorTie
import Derived.Deep.DeepHandedRow
import Derived.Deep.DeepWitnessRowRef
import Derived.Lib.LaidIn
import Derived.Lib.LaidTab
import Derived.LaidLaws
import Derived.Stop.LaidErr
import Derived.Lib.SmallJoins
namespace Go.Proofs.YtbeikhgjkbnldaaDoor
open Go.ChangeShapes Go.WideShapes Go.ChangeAt Go.RowKit
set_option linter.unusedVariables false
set_option linter.unusedSimpArgs false

theorem own : ownKnob Tryd.prog.godebug = none := by kernel_rfl
theorem laidOut : laidOutB Tryd.prog = true := by kernel_rfl
abbrev laidL : List (String × DataW Unit) := Rows.exprBoundsRow.laid
def deBruijn : List Int := [0, 1, 56, 2, 57, 49, 28, 3, 61, 58, 42, 50, 38, 29, 17, 4, 62, 47, 59, 36, 45, 43, 51, 22, 53, 39, 33, 30, 24, 18, 12, 5, 63, 55, 48, 27, 60, 41, 37, 16, 46, 35, 44, 21, 52, 32, 23, 11, 54, 26, 40, 15, 34, 20, 31, 10, 25, 14, 19, 9, 13, 8, 7, 6]
theorem env_of (W : World) (hL : laidMet Tryd.prog laidL W) : TabW W := by
  have h1 : Lib.TabIs Tryd.prog W "internal/strconv.uint64pow10" .u64 Lib.pow10Tab :=
    Lib.tabIs_of_head (g := 0) (t := 137) (e := 82) (n := 20) (by kernel_rfl) (by kernel_rfl) Tryd.underlying137 Tryd.underlying82 (by kernel_rfl) (by kernel_rfl) hL.tail.tail
  have h2 : Lib.TabIs Tryd.prog W "math/bits.deBruijn64tab" .u8 deBruijn :=
    Lib.tabIs_of_head (g := 2) (t := 160) (e := 5) (n := 64) (by kernel_rfl) (by kernel_rfl) Tryd.underlying160 Tryd.underlying5 (by kernel_rfl) (by kernel_rfl) hL.tail
  intro w' hb
  have h3 := Joins.tab_stays (g := 2) (by kernel_rfl) h2 hb (Nat.le_refl _)
  exact ⟨Joins.tab_stays (g := 0) (by kernel_rfl) h1 hb (Nat.le_refl _), (World.var?_cell (by kernel_rfl) h3 15).trans (by kernel_rfl), (World.var?_cell (by kernel_rfl) h3 7).trans (by kernel_rfl)⟩

/-! ### A world for the witness -/
def lit1 : DataW Unit → Value
  | .lit (.int k z) => .int k z
  | _ => undef
def row1 : DataW Unit → List Value
  | .agg l => l.map lit1
  | _ => []
noncomputable def laidWorld (os : Os) : World :=
  let w0 := World.holding Tryd.prog os ⟨#[], #[], []⟩
  let put (h : Array Obj) (g : Nat) (cs : Array Value) : Array Obj := h.modify g fun
    | .cells _ t frozen => .cells cs t frozen
    | o => o
  let h1 := put w0.heap 0 (row1 Rows.laid_internal_strconv_uint64pow10).toArray
  let h2 := put h1 1 (row1 Rows.laid_math_bits_deBruijn32tab).toArray
  let h3 := put h2 2 (row1 Rows.laid_math_bits_deBruijn64tab).toArray
  { w0 with heap := h3 }
end Go.Proofs.YtbeikhgjkbnldaaDoor
